/- The law BitsSays, walked: any core, any value of at most so many parts, any choices, any bytes. -/
import Derived.Test.YtklmomgccmekkaaBitsSlim
import Derived.Test.YtklmomgccmekkaaValWS
import Derived.Test.YtklmomgccmekkaaCoreBig
import Derived.Test.YtklmomgccmekkaaHoldKit
import Derived.Test.YtklmomgccmekkaaAnyInv
import Derived.Test.YtklmomgccmekkaaClosed
namespace Go.Proofs.Ytklmomgccmekkaa
namespace V
set_option maxRecDepth 100000
open Go.RowKit
def bsF (_B0 : Nat) (v u : Vl) (zs : List Value) (tp : ByteArray) (e1 : Int) : List Fact := [
  isVal v,
  isEq (.string tp),
  isVal v,
  isVal v,
  isEq (.string tp),
  isEq (.bool true),
  isEq (.bool true),
  isEq (.int .i64 e1),
  isEq (.int .i64 e1),
  isEq (.bool true),
  isEq (.bool true),
  isEq (.bool true),
  isVal u,
  isVal u,
  isEq (.agg zs.toArray),
  isEq (.bool true),
  isEq (.bool true),
  isEq (.bool true)]
theorem bsF_stable (B0 : Nat) (v u : Vl) (zs : List Value) (tp : ByteArray) (e1 : Int) : AllG (fun _ P => Stable P) 0 (bsF B0 v u zs tp e1) := by
  unfold bsF
  refine AllG.cons (k' := 1) rfl (isVal.stable _) ?_
  refine AllG.cons (k' := 2) rfl (isEq.stable _) ?_
  refine AllG.cons (k' := 3) rfl (isVal.stable _) ?_
  refine AllG.cons (k' := 4) rfl (isVal.stable _) ?_
  refine AllG.cons (k' := 5) rfl (isEq.stable _) ?_
  refine AllG.cons (k' := 6) rfl (isEq.stable _) ?_
  refine AllG.cons (k' := 7) rfl (isEq.stable _) ?_
  refine AllG.cons (k' := 8) rfl (isEq.stable _) ?_
  refine AllG.cons (k' := 9) rfl (isEq.stable _) ?_
  refine AllG.cons (k' := 10) rfl (isEq.stable _) ?_
  refine AllG.cons (k' := 11) rfl (isEq.stable _) ?_
  refine AllG.cons (k' := 12) rfl (isEq.stable _) ?_
  refine AllG.cons (k' := 13) rfl (isVal.stable _) ?_
  refine AllG.cons (k' := 14) rfl (isVal.stable _) ?_
  refine AllG.cons (k' := 15) rfl (isEq.stable _) ?_
  refine AllG.cons (k' := 16) rfl (isEq.stable _) ?_
  refine AllG.cons (k' := 17) rfl (isEq.stable _) ?_
  refine AllG.cons (k' := 18) rfl (isEq.stable _) ?_
  exact AllG.nil

theorem wp_move_to {o : Oper} {a : Act} {w : World} {K : Act → World → Prop} {Q : Exit → Act → World → Prop} (x : Operand) (ho : o.op = .move x) (v : Value) (hx : a.eval x = v) (h : K (a.put o.dst v) w) : o.wp Try.prog a w K Q := by
  unfold Oper.wp execOp
  simp only [ho, hx, Sem.run_pure]
  exact h
set_option maxHeartbeats 16000000 in
theorem bitsSays_walk (x : K.Cr) (cs : List Value) (v : Vl) (ds : List Value) (t : ByteArray) (a : Option Addr) (n cap : Nat) (l : List Nat) (w : World) (hx : K.Cr.at w x cs) (hv : Vl.at w v ds) (hl : BytesAt w a n cap l) (hsv : v.count ≤ 1048576) :
    Calls Try.prog 4 #[.agg cs.toArray, .agg ds.toArray, .string t, .slice a n cap] w fun e w' => e = .returned (.bool true) ∧ Below w.heap.size w w' := by
  obtain ⟨W, hW⟩ : ∃ W, W = (w.alloc (.cells cs.toArray 28)).alloc (.cells ds.toArray 35) := ⟨_, rfl⟩
  have hbW : Below w.heap.size w W := by rw [hW]; exact (((Below.refl _ _).alloc (Nat.le_refl _) _).alloc (by simp) _)
  have hsW : W.heap.size = w.heap.size + 2 := by rw [hW]; simp
  have hxx : K.Core7 W w.heap.size 0 cs := by
    have h := World.alloc_heap_new w (.cells cs.toArray 28)
    rw [hW]
    exact core7_below (K.core7_in h (K.at_len hx)) (B := w.heap.size + 1) (by omega) ((Below.refl _ _).alloc (by first | (simp; done) | (simp; omega)) _)
  have hxv : Val3 W (w.heap.size + 1) 0 ds := by
    have h := World.alloc_heap_new (w.alloc (.cells cs.toArray 28)) (.cells ds.toArray 35)
    rw [World.size_alloc] at h
    rw [hW]
    exact (val3_in h (at_len hv))
  have HXx : Hid (∀ w', Below W.heap.size W w' → K.Core7 w' w.heap.size 0 cs) := Lib.hid fun w' h => core7_below hxx (by omega) h
  have HAx : Hid (∀ w', Below W.heap.size W w' → K.Cr.at w' x cs) := Lib.hid fun w' h => K.Cr.at_below (hbW.trans (h.mono hbW.size)) (Nat.le_refl _) _ _ hx
  have HXv : Hid (∀ w', Below W.heap.size W w' → Val3 w' (w.heap.size + 1) 0 ds) := Lib.hid fun w' h => Val3.below hxv (by omega) h
  have HAv : Hid (∀ w', Below W.heap.size W w' → Vl.at w' v ds) := Lib.hid fun w' h => Vl.at_below (hbW.trans (h.mono hbW.size)) (Nat.le_refl _) _ _ hv
  have HbW := Lib.hid hbW
  have HsW := Lib.hid hsW
  clear hbW hsW hxx hxv
  have HAl : Hid (∀ w', Below W.heap.size W w' → BytesAt w' a n cap l) := Lib.hid fun w' h => bytes_keep hl (HbW.out.trans (h.mono HbW.out.size))
  have hn := hl.1
  have hmx : (n : Int) ≤ 9223372036854775807 := by have := hl.2.2.1; unfold maxLen at this; omega
  have HN := Lib.hid hn
  have Hsv := Lib.hid hsv
  obtain ⟨kx, sx, nx, ax, lenx, capx, rfl⟩ := K.at_lit hx
  obtain ⟨kv, zv, av, lenv, capv, rfl⟩ := at_lit hv
  have Hb0 := Lib.hid (Below.refl W.heap.size W)
  clear hx hv hl hn hsv
  go_enter Try.func4, Try.ntmps4
  go_upto_region 1 with fail
  rw [← hW]
  clear hW
  go_wp2_with fail
  refine (awake11_any _).mono ?_
  rintro e w1 ⟨rfl, hb'⟩
  have Hb1 := Lib.hid (Hb0.out.trans (hb'.mono Hb0.out.size))
  clear hb'
  go_wp2_with (first | (refine K.wpList_load_core rfl _ rfl w.heap.size 0 _ rfl (HXx.out _ Hb1.out) ?_) | fail)
  refine (K.big_any 100 x _ _ (by decide) (HAx.out _ Hb1.out)).mono ?_
  rintro e w2 ⟨rfl, hb'⟩
  have Hb2 := Lib.hid (Hb1.out.trans (hb'.mono Hb1.out.size))
  clear hb'
  obtain ⟨bx, hbx⟩ : ∃ bx, bx = K.bigN 100 x := ⟨_, rfl⟩
  rw [← hbx]
  have Hbx := Lib.hid hbx
  clear hbx
  cases bx
  case true =>
    go_wp2_with fail
    go_ret
    exact ⟨rfl, HbW.out.trans (Hb2.out.mono HbW.out.size)⟩
  have Hslc := Lib.hid (K.slim_of_big 100 x Hbx.out.symm)
  go_wp2_with (first | (refine wpList_load_val_want rfl _ rfl (w.heap.size + 1) 0 _ rfl (HXv.out _ Hb2.out) ?_) | fail)
  refine (wide_any 40 v _ _ (by decide) (HAv.out _ Hb2.out)).mono ?_
  rintro e w3 ⟨rfl, hb'⟩
  have Hb4 := Lib.hid (Hb2.out.trans (hb'.mono Hb2.out.size))
  clear hb'
  obtain ⟨bw, hbw⟩ : ∃ bw, bw = wideN 40 v := ⟨_, rfl⟩
  rw [← hbw]
  have Hbw := Lib.hid hbw
  clear hbw
  cases bw
  case true =>
    go_wp2_with fail
    go_ret
    exact ⟨rfl, HbW.out.trans (Hb4.out.mono HbW.out.size)⟩
  have Hslv := Lib.hid (slim_of_wide 40 v Hbw.out.symm)
  by_cases c2 : 200 < t.size
  · have c2_0 : decide ((t.size : Int) > 200) = true := by simp; omega
    have c2_1 : decide ((200 : Int) < t.size) = true := by simp; omega
    have c2_2 : decide (200 < t.size) = true := by simp; omega
    clear c2
    go_wp2_with fail
    go_ret
    exact ⟨rfl, HbW.out.trans (Hb4.out.mono HbW.out.size)⟩
  have c2_0 : decide ((t.size : Int) > 200) = false := by simp; omega
  have c2_1 : decide ((200 : Int) < t.size) = false := by simp; omega
  have c2_2 : decide (200 < t.size) = false := by simp; omega
  have C2H := Lib.hid c2
  clear c2
  by_cases c3 : 100 < n
  · have c3_0 : decide ((n : Int) > 100) = true := by simp; omega
    have c3_1 : decide ((100 : Int) < n) = true := by simp; omega
    have c3_2 : decide (100 < n) = true := by simp; omega
    clear c3
    go_wp2_with fail
    go_ret
    exact ⟨rfl, HbW.out.trans (Hb4.out.mono HbW.out.size)⟩
  have c3_0 : decide ((n : Int) > 100) = false := by simp; omega
  have c3_1 : decide ((100 : Int) < n) = false := by simp; omega
  have c3_2 : decide (100 < n) = false := by simp; omega
  have C3H := Lib.hid c3
  clear c3
  obtain ⟨e1, he1⟩ : ∃ e1, e1 = (resG x (nats t) l).2 := ⟨_, rfl⟩
  obtain ⟨u, hu⟩ : ∃ u, u = (resG x (nats t) l).1 := ⟨_, rfl⟩
  have Hslu := Lib.hid (show slimV u.count u = true from slim_of_count _ _ (Nat.le_refl _) (by have := resG_count x (nats t) l; rw [← hu, nats_length] at this; have := C2H.out; omega))
  have He1 := Lib.hid he1
  have Hu := Lib.hid hu
  clear he1 hu
  go_wp2_with (first | (refine K.wpList_load_core rfl _ rfl w.heap.size 0 _ rfl (HXx.out _ Hb4.out) ?_) | fail)
  clear c2_0 c2_1 c2_2 c3_0 c3_1 c3_2
  refine (get_any (HAx.out _ Hb4.out) (HAl.out _ Hb4.out) (by have := C2H.out; omega)).mono ?_
  rintro e w9 ⟨k9, z9, a9, len9, cap9, rfl, hv9, hb'⟩
  rw [← He1.out]
  rw [← Hu.out] at hv9
  obtain ⟨w10, hw10⟩ : ∃ w10, w10 = w9.alloc (.cells #[.int .i64 k9, .int .u8 z9, .slice a9 len9 cap9] 35) := ⟨_, rfl⟩
  have hal10 : Below w9.heap.size w9 w10 := by rw [hw10]; exact K.alloc_below w9 _
  have hb10 : Below W.heap.size W w10 := (Hb4.out.trans (hb'.mono Hb4.out.size)).trans (hal10.mono (by have := Hb4.out.size; have := hb'.size; omega))
  have hat10 := Vl.at_below hal10 (Nat.le_refl _) _ _ hv9.at
  have hx10 : ValIn w10 w9.heap.size #[.int .i64 k9, .int .u8 z9, .slice a9 len9 cap9] := by rw [hw10]; exact World.alloc_heap_new w9 _
  have h310 := val3_in (cs := [.int .i64 k9, .int .u8 z9, .slice a9 len9 cap9]) hx10 rfl
  have H10 := Lib.hid (fun (w' : World) (h : Below w10.heap.size w10 w') => And.intro (h310.below h310.lt h) (Vl.at_below h (Nat.le_refl _) _ _ hat10))
  have Hb10 := Lib.hid hb10
  clear hb' hal10 hb10 hat10 hx10 h310 hv9
  go_upto_region 6 with fail
  rw [← hw10]
  clear hw10
  obtain ⟨b9, hb9⟩ : ∃ b9, b9 = w9.heap.size := ⟨_, rfl⟩
  rw [← hb9] at H10 ⊢
  clear hb9
  go_wp2_with (first | (refine K.wpList_load_core rfl _ rfl w.heap.size 0 _ rfl (HXx.out _ Hb10.out) ?_) | fail)
  refine (K.lawCore_any 100 x _ _ Hslc.out (HAx.out _ Hb10.out)).mono ?_
  rintro e wc ⟨rs, rfl, hin, hb'⟩
  have hbc : Below w10.heap.size w10 wc := hb'
  have Hbc := Lib.hid hbc
  have Hin := Lib.hid hin.ref
  clear hin hb' hbc
  go_wp2_with fail
  refine (refGet_any Hin.out (HAl.out _ (Hb10.out.trans (Hbc.out.mono Hb10.out.size))) (by have := C2H.out; omega)).mono ?_
  rintro e w11 ⟨k11, z11, a11, len11, cap11, rfl, hv11, hb'⟩
  rw [← He1.out]
  rw [← Hu.out] at hv11
  obtain ⟨w12, hw12⟩ : ∃ w12, w12 = w11.alloc (.cells #[.int .i64 k11, .int .u8 z11, .slice a11 len11 cap11] 47) := ⟨_, rfl⟩
  have hal12 : Below w11.heap.size w11 w12 := by rw [hw12]; exact K.alloc_below w11 _
  have hb12 : Below w10.heap.size w10 w12 := (Hbc.out.trans (hb'.mono Hbc.out.size)).trans (hal12.mono (by have := Hbc.out.size; have := hb'.size; omega))
  have hat12 := Vl.at_below hal12 (Nat.le_refl _) _ _ hv11.ref
  have hx12 : RBox w12 w11.heap.size #[.int .i64 k11, .int .u8 z11, .slice a11 len11 cap11] := by rw [hw12]; exact rbox_start w11 _
  obtain ⟨zs, hzs⟩ : ∃ zs : List Value, zs = [.int .i64 k11, .int .u8 z11, .slice a11 len11 cap11] := ⟨_, rfl⟩
  have h312 := rval3_in (cs := [.int .i64 k11, .int .u8 z11, .slice a11 len11 cap11]) hx12 rfl
  obtain ⟨b11, hb11⟩ : ∃ b11, b11 = w11.heap.size := ⟨_, rfl⟩
  rw [← hb11, ← hzs] at h312
  rw [← hzs] at hat12
  have RB11 := Lib.hid (fun (w' : World) (h : Below w12.heap.size w12 w') => And.intro (h312.below h312.lt h) (Vl.at_below h (Nat.le_refl _) _ _ hat12))
  have BX9 := Lib.hid (fun (w' : World) (h : Below w12.heap.size w12 w') => H10.out w' (hb12.trans (h.mono hb12.size)))
  have BX5 := Lib.hid (fun (w' : World) (h : Below w12.heap.size w12 w') => And.intro (HXv.out _ (Hb10.out.trans ((hb12.trans (h.mono hb12.size)).mono Hb10.out.size))) (HAv.out _ (Hb10.out.trans ((hb12.trans (h.mono hb12.size)).mono Hb10.out.size))))
  have HB := Lib.hid (HbW.out.trans ((Hb10.out.trans (hb12.mono Hb10.out.size)).mono HbW.out.size))
  clear hb' hal12 hb12 hat12 hx12 h312 hv11 hzs Hin H10
  go_upto_region 7 with fail
  rw [← hw12, ← hb11]
  clear hw12 hb11
  obtain ⟨tp, htp⟩ : ∃ tp : ByteArray, nats tp = v.put := ⟨⟨(toBytes v.put).toArray⟩, nats_bytes (put_byte v)⟩
  have Htp := Lib.hid htp
  clear htp
  go_cut [8] from 46 to 63 (fun v wx => v = .bool true ∧ Below w12.heap.size w12 wx)
  case first =>
   rename_i J K' hR hMet
   refine wp_region_guards (factAt (bsF w12.heap.size v u zs tp e1)) (W0 := w12) (by kernel_rfl) (by kernel_rfl) (by kernel_rfl) (Below.refl _ _) (fun i v w w' h hk => factAt_stable (bsF_stable _ _ _ _ _ _) i v w w' h hk) [6, 11] (by kernel_rfl) ?hgu ?hop ?hend
   case hgu =>
     intro j hj v w h
     simp only [List.mem_cons, List.not_mem_nil, or_false] at hj
     rcases hj with rfl | rfl
     · exact fact_get (P := isEq (.bool true)) rfl h
     · exact fact_get (P := isEq (.bool true)) rfl h
   case hop =>
     refine AllG.get0 ?_
     refine AllG.cons (k' := 1) rfl ?_ ?_
     · intro a' w' hB hk hin KK hK
       refine wp_load_valK _ rfl (w.heap.size + 1) 0 _ (eval_tmp (by rw [hk 5 (by kernel_rfl)]; rfl)) (BX5.out _ hB).1 ?_
       exact hK _ _ hB (KeepsC.of_below (Below.refl _ _)) (fact_put (P := isVal v) rfl ⟨_, rfl, (BX5.out _ hB).2⟩)
     refine AllG.cons (k' := 2) rfl ?_ ?_
     · intro a' w' hB hk hin KK hK
       obtain ⟨v1, e1, q1⟩ := hin 0 _ 46 rfl rfl ⟨{ on := 0, ground := .data }, by simp, rfl, rfl⟩
       have q1 := fact_get (P := isVal v) rfl q1
       obtain ⟨zs1, r1, hat1⟩ := q1
       subst r1
       unfold Oper.wp execOp
       go_simp
       refine (put_y (t := tp) hat1 Htp.out Hsv.out).mono ?_
       rintro e wn ⟨rfl, hbn⟩
       exact hK _ _ (hB.trans (hbn.mono hB.size)) (KeepsC.of_below hbn) (fact_put (P := isEq (.string tp)) rfl rfl)
     refine AllG.cons (k' := 3) rfl ?_ ?_
     · intro a' w' hB hk hin KK hK
       refine wp_load_valK _ rfl (w.heap.size + 1) 0 _ (eval_tmp (by rw [hk 5 (by kernel_rfl)]; rfl)) (BX5.out _ hB).1 ?_
       exact hK _ _ hB (KeepsC.of_below (Below.refl _ _)) (fact_put (P := isVal v) rfl ⟨_, rfl, (BX5.out _ hB).2⟩)
     refine AllG.cons (k' := 4) rfl ?_ ?_
     · intro a' w' hB hk hin KK hK
       obtain ⟨v2, e2, q2⟩ := hin 2 _ 48 rfl rfl ⟨{ on := 2, ground := .data }, by simp, rfl, rfl⟩
       have q2 := fact_get (P := isVal v) rfl q2
       obtain ⟨zs2, r2, hat2⟩ := q2
       subst r2
       unfold Oper.wp execOp
       go_simp
       refine (vof_y hat2 Hslv.out).mono ?_
       rintro e wn ⟨⟨zz, rfl, hat⟩, hbn⟩
       exact hK _ _ (hB.trans (hbn.mono hB.size)) (KeepsC.of_below hbn) (fact_put (P := isVal v) rfl ⟨zz, rfl, hat⟩)
     refine AllG.cons (k' := 5) rfl ?_ ?_
     · intro a' w' hB hk hin KK hK
       obtain ⟨v3, e3, q3⟩ := hin 3 _ 49 rfl rfl ⟨{ on := 3, ground := .data }, by simp, rfl, rfl⟩
       have q3 := fact_get (P := isVal v) rfl q3
       obtain ⟨zs3, r3, hat3⟩ := q3
       subst r3
       unfold Oper.wp execOp
       go_simp
       refine (rbits_y (t := tp) hat3 Htp.out Hsv.out).mono ?_
       rintro e wn ⟨rfl, hbn⟩
       exact hK _ _ (hB.trans (hbn.mono hB.size)) (KeepsC.of_below hbn) (fact_put (P := isEq (.string tp)) rfl rfl)
     refine AllG.cons (k' := 6) rfl ?_ ?_
     · intro a' w' hB hk hin KK hK
       obtain ⟨v4, e4, q4⟩ := hin 1 _ 47 rfl rfl ⟨{ on := 1, ground := .data }, by simp, rfl, rfl⟩
       have q4 := fact_get (P := isEq (.string tp)) rfl q4
       have q4' : v4 = .string tp := q4
       subst q4'
       obtain ⟨v5, e5, q5⟩ := hin 4 _ 50 rfl rfl ⟨{ on := 4, ground := .data }, by simp, rfl, rfl⟩
       have q5 := fact_get (P := isEq (.string tp)) rfl q5
       have q5' : v5 = .string tp := q5
       subst q5'
       unfold Oper.wp execOp
       go_simp
       exact hK _ _ hB (KeepsC.of_below (Below.refl _ _)) (fact_put (P := isEq (.bool true)) rfl (by first | rfl | (simp; done)))
     refine AllG.cons (k' := 7) rfl ?_ ?_
     · intro a' w' hB hk hin KK hK
       obtain ⟨v6, e6, q6⟩ := hin 5 _ 51 rfl rfl ⟨{ on := 5, ground := .data }, by simp, rfl, rfl⟩
       have q6 := fact_get (P := isEq (.bool true)) rfl q6
       have q6' : v6 = .bool true := q6
       subst q6'
       unfold Oper.wp execOp
       go_simp
       exact hK _ _ hB (KeepsC.of_below (Below.refl _ _)) (fact_put (P := isEq (.bool true)) rfl rfl)
     refine AllG.cons (k' := 8) rfl ?_ ?_
     · intro a' w' hB hk hin KK hK
       refine wp_move_to _ rfl (.int .i64 e1) (eval_tmp (by rw [hk 10 (by kernel_rfl)]; rfl)) ?_
       exact hK _ _ hB (KeepsC.of_below (Below.refl _ _)) (fact_put (P := isEq (.int .i64 e1)) rfl rfl)
     refine AllG.cons (k' := 9) rfl ?_ ?_
     · intro a' w' hB hk hin KK hK
       refine wp_move_to _ rfl (.int .i64 e1) (eval_tmp (by rw [hk 12 (by kernel_rfl)]; rfl)) ?_
       exact hK _ _ hB (KeepsC.of_below (Below.refl _ _)) (fact_put (P := isEq (.int .i64 e1)) rfl rfl)
     refine AllG.cons (k' := 10) rfl ?_ ?_
     · intro a' w' hB hk hin KK hK
       obtain ⟨v7, e7, q7⟩ := hin 7 _ 53 rfl rfl ⟨{ on := 7, ground := .data }, by simp, rfl, rfl⟩
       have q7 := fact_get (P := isEq (.int .i64 e1)) rfl q7
       have q7' : v7 = .int .i64 e1 := q7
       subst q7'
       obtain ⟨v8, e8, q8⟩ := hin 8 _ 54 rfl rfl ⟨{ on := 8, ground := .data }, by simp, rfl, rfl⟩
       have q8 := fact_get (P := isEq (.int .i64 e1)) rfl q8
       have q8' : v8 = .int .i64 e1 := q8
       subst q8'
       unfold Oper.wp execOp
       go_simp
       exact hK _ _ hB (KeepsC.of_below (Below.refl _ _)) (fact_put (P := isEq (.bool true)) rfl (by first | rfl | (simp; done)))
     refine AllG.cons (k' := 11) rfl ?_ ?_
     · intro a' w' hB hk hin KK hK
       obtain ⟨v9, e9, q9⟩ := hin 6 _ 52 rfl rfl ⟨{ on := 6, ground := .data }, by simp, rfl, rfl⟩
       have q9 := fact_get (P := isEq (.bool true)) rfl q9
       have q9' : v9 = .bool true := q9
       subst q9'
       obtain ⟨v10, e10, q10⟩ := hin 9 _ 55 rfl rfl ⟨{ on := 9, ground := .data }, by simp, rfl, rfl⟩
       have q10 := fact_get (P := isEq (.bool true)) rfl q10
       have q10' : v10 = .bool true := q10
       subst q10'
       unfold Oper.wp execOp
       go_simp
       exact hK _ _ hB (KeepsC.of_below (Below.refl _ _)) (fact_put (P := isEq (.bool true)) rfl rfl)
     refine AllG.cons (k' := 12) rfl ?_ ?_
     · intro a' w' hB hk hin KK hK
       obtain ⟨v11, e11, q11⟩ := hin 10 _ 56 rfl rfl ⟨{ on := 10, ground := .data }, by simp, rfl, rfl⟩
       have q11 := fact_get (P := isEq (.bool true)) rfl q11
       have q11' : v11 = .bool true := q11
       subst q11'
       unfold Oper.wp execOp
       go_simp
       exact hK _ _ hB (KeepsC.of_below (Below.refl _ _)) (fact_put (P := isEq (.bool true)) rfl rfl)
     refine AllG.cons (k' := 13) rfl ?_ ?_
     · intro a' w' hB hk hin KK hK
       refine wp_load_valK _ rfl b9 0 _ (eval_tmp (by rw [hk 9 (by kernel_rfl)]; rfl)) (BX9.out _ hB).1 ?_
       exact hK _ _ hB (KeepsC.of_below (Below.refl _ _)) (fact_put (P := isVal u) rfl ⟨_, rfl, (BX9.out _ hB).2⟩)
     refine AllG.cons (k' := 14) rfl ?_ ?_
     · intro a' w' hB hk hin KK hK
       obtain ⟨v12, e12, q12⟩ := hin 12 _ 58 rfl rfl ⟨{ on := 12, ground := .data }, by simp, rfl, rfl⟩
       have q12 := fact_get (P := isVal u) rfl q12
       obtain ⟨zs12, r12, hat12⟩ := q12
       subst r12
       unfold Oper.wp execOp
       go_simp
       refine (vof_y hat12 Hslu.out).mono ?_
       rintro e wn ⟨⟨zz, rfl, hat⟩, hbn⟩
       exact hK _ _ (hB.trans (hbn.mono hB.size)) (KeepsC.of_below hbn) (fact_put (P := isVal u) rfl ⟨zz, rfl, hat⟩)
     refine AllG.cons (k' := 15) rfl ?_ ?_
     · intro a' w' hB hk hin KK hK
       refine wp_load_rvk _ rfl b11 0 _ (eval_tmp (by rw [hk 11 (by kernel_rfl)]; rfl)) (RB11.out _ hB).1 ?_
       exact hK _ _ hB (KeepsC.of_below (Below.refl _ _)) (fact_put (P := isEq (.agg zs.toArray)) rfl rfl)
     refine AllG.cons (k' := 16) rfl ?_ ?_
     · intro a' w' hB hk hin KK hK
       obtain ⟨v13, e13, q13⟩ := hin 13 _ 59 rfl rfl ⟨{ on := 13, ground := .data }, by simp, rfl, rfl⟩
       have q13 := fact_get (P := isVal u) rfl q13
       obtain ⟨zs13, r13, hat13⟩ := q13
       subst r13
       obtain ⟨v14, e14, q14⟩ := hin 14 _ 60 rfl rfl ⟨{ on := 14, ground := .data }, by simp, rfl, rfl⟩
       have q14 := fact_get (P := isEq (.agg zs.toArray)) rfl q14
       have q14' : v14 = .agg zs.toArray := q14
       subst q14'
       unfold Oper.wp execOp
       go_simp
       refine (vsame_y hat13 (RB11.out _ hB).2).mono ?_
       rintro e wn ⟨rfl, hbn⟩
       exact hK _ _ (hB.trans (hbn.mono hB.size)) (KeepsC.of_below hbn) (fact_put (P := isEq (.bool true)) rfl rfl)
     refine AllG.cons (k' := 17) rfl ?_ ?_
     · intro a' w' hB hk hin KK hK
       obtain ⟨v15, e15, q15⟩ := hin 11 _ 57 rfl rfl ⟨{ on := 11, ground := .data }, by simp, rfl, rfl⟩
       have q15 := fact_get (P := isEq (.bool true)) rfl q15
       have q15' : v15 = .bool true := q15
       subst q15'
       obtain ⟨v16, e16, q16⟩ := hin 15 _ 61 rfl rfl ⟨{ on := 15, ground := .data }, by simp, rfl, rfl⟩
       have q16 := fact_get (P := isEq (.bool true)) rfl q16
       have q16' : v16 = .bool true := q16
       subst q16'
       unfold Oper.wp execOp
       go_simp
       exact hK _ _ hB (KeepsC.of_below (Below.refl _ _)) (fact_put (P := isEq (.bool true)) rfl rfl)
     refine AllG.cons (k' := 18) rfl ?_ ?_
     · intro a' w' hB hk hin KK hK
       obtain ⟨v17, e17, q17⟩ := hin 16 _ 62 rfl rfl ⟨{ on := 16, ground := .data }, by simp, rfl, rfl⟩
       have q17 := fact_get (P := isEq (.bool true)) rfl q17
       have q17' : v17 = .bool true := q17
       subst q17'
       unfold Oper.wp execOp
       go_simp
       exact hK _ _ hB (KeepsC.of_below (Below.refl _ _)) (fact_put (P := isEq (.bool true)) rfl rfl)
     exact AllG.nil
   case hend =>
    intro a' w' hB hdef hsz hk hvals
    obtain ⟨v', hv', hvt⟩ := hvals 17 _ 8 rfl rfl
    have hvt' := fact_get (P := isEq (.bool true)) rfl hvt
    have hvt2 : v' = .bool true := hvt'
    subst hvt2
    have hf0 : a'.tmps.getD 8 undef = .bool true := by rw [Array.getD_eq_getD_getElem?, hv']; rfl
    have heq := act_eq hdef hsz hk
    refine hMet a' w' (Met.intro (hR a' w' ?_))
    refine ⟨a'.tmps.getD 8 undef, a'.tmps.getD 46 undef, a'.tmps.getD 47 undef, a'.tmps.getD 48 undef, a'.tmps.getD 49 undef, a'.tmps.getD 50 undef, a'.tmps.getD 51 undef, a'.tmps.getD 52 undef, a'.tmps.getD 53 undef, a'.tmps.getD 54 undef, a'.tmps.getD 55 undef, a'.tmps.getD 56 undef, a'.tmps.getD 57 undef, a'.tmps.getD 58 undef, a'.tmps.getD 59 undef, a'.tmps.getD 60 undef, a'.tmps.getD 61 undef, a'.tmps.getD 62 undef, ⟨hf0, hB⟩, heq.trans ?_⟩
    kernel_rfl
  case rest =>
   obtain ⟨rfl, hBc⟩ := hcut
   have Hfin := Lib.hid (HB.out.trans (hBc.mono HB.out.size))
   clear hBc
   go_wp2_with fail
   go_ret
   exact ⟨rfl, Hfin.out⟩

end V
end Go.Proofs.Ytklmomgccmekkaa
