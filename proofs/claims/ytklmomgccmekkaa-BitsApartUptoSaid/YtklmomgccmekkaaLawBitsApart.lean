/- The law BitsApart, walked: any core, any two values of at most so many parts. -/
import Derived.Test.YtklmomgccmekkaaBitsLaw
import Derived.Test.YtklmomgccmekkaaValWide
import Derived.Test.YtklmomgccmekkaaCoreBig
import Derived.Test.YtklmomgccmekkaaHoldKit
import Derived.Test.YtklmomgccmekkaaAnyInv
namespace Go.Proofs.Ytklmomgccmekkaa
namespace V
set_option maxRecDepth 100000
open Go.RowKit
theorem bytes_take {w : World} {a : Option Addr} {n cap : Nat} {l : List Nat} (h : BytesAt w a n cap l) {k : Nat} (hk : k ≤ n) : BytesAt w a k cap (l.take k) := by
  obtain ⟨h1, h2, h3, h4⟩ := h
  refine ⟨by rw [List.length_take]; omega, fun y hy => h2 y (List.mem_of_mem_take hy), by omega, ?_⟩
  by_cases h0 : k = 0
  · exact .inl h0
  · rcases h4 with h4 | ⟨b, off, e, hcap, hlt, hr⟩
    · omega
    · refine .inr ⟨b, off, e, by omega, hlt, fun j hj => ?_⟩
      rw [hr j (by omega), List.getD_eq_getElem?_getD, List.getD_eq_getElem?_getD, List.getElem?_take, if_pos hj]
theorem bytes_cap {w : World} {a : Option Addr} {n cap : Nat} {l : List Nat} (h : BytesAt w a n cap l) : n ≤ cap ∨ n = 0 := by
  obtain ⟨_, _, _, h4⟩ := h
  rcases h4 with h4 | ⟨_, _, _, hcap, _⟩
  · exact .inr h4
  · exact .inl hcap
theorem take_iff {A B : List Nat} : B.take A.length = A ↔ ∃ q, B = A ++ q := by
  constructor
  · intro h
    exact ⟨B.drop A.length, by rw [← List.take_append_drop A.length B, h]; simp⟩
  · rintro ⟨q, rfl⟩
    simp
theorem eq_take (tb ta : ByteArray) (_h : ta.size ≤ tb.size) : ((tb.extract 0 ta.size).toList == ta.toList) = decide ((nats tb).take (nats ta).length = nats ta) := by
  have e : nats (tb.extract 0 ta.size) = (nats tb).take (nats ta).length := by
    unfold nats
    rw [Lib.extract_eq, List.drop_zero, Nat.sub_zero, List.map_take, List.length_map, ← Lib.size_eq]
  rw [eq_list, e]
set_option maxHeartbeats 16000000 in
theorem bitsApart_walk (x : K.Cr) (cs : List Value) (v : Vl) (ds : List Value) (u : Vl) (es : List Value) (w : World) (hx : K.Cr.at w x cs) (hv : Vl.at w v ds) (hu : Vl.at w u es) (hsv : v.count ≤ 1048576) (hsu : u.count ≤ 1048576) :
    Calls Try.prog 6 #[.agg cs.toArray, .agg ds.toArray, .agg es.toArray] w fun e w' => e = .returned (.bool true) ∧ Below w.heap.size w w' := by
  obtain ⟨W, hW⟩ : ∃ W, W = ((w.alloc (.cells cs.toArray 28)).alloc (.cells ds.toArray 35)).alloc (.cells es.toArray 35) := ⟨_, rfl⟩
  have hbW : Below w.heap.size w W := by rw [hW]; exact ((((Below.refl _ _).alloc (Nat.le_refl _) _).alloc (by simp) _).alloc (by simp; omega) _)
  have hsW : W.heap.size = w.heap.size + 3 := by rw [hW]; simp
  have hxx : K.Core7 W w.heap.size 0 cs := by
    have h := World.alloc_heap_new w (.cells cs.toArray 28)
    rw [hW]
    exact core7_below (K.core7_in h (K.at_len hx)) (B := w.heap.size + 1) (by omega) (((Below.refl _ _).alloc (by first | (simp; done) | (simp; omega)) _).alloc (by first | (simp; done) | (simp; omega)) _)
  have hxv : Val3 W (w.heap.size + 1) 0 ds := by
    have h := World.alloc_heap_new (w.alloc (.cells cs.toArray 28)) (.cells ds.toArray 35)
    rw [World.size_alloc] at h
    rw [hW]
    exact Val3.below (val3_in h (at_len hv)) (B := w.heap.size + 2) (by omega) ((Below.refl _ _).alloc (by first | (simp; done) | (simp; omega)) _)
  have hxu : Val3 W (w.heap.size + 2) 0 es := by
    have h := World.alloc_heap_new ((w.alloc (.cells cs.toArray 28)).alloc (.cells ds.toArray 35)) (.cells es.toArray 35)
    rw [World.size_alloc, World.size_alloc] at h
    rw [hW]
    exact (val3_in h (at_len hu))
  have HXx : Hid (∀ w', Below W.heap.size W w' → K.Core7 w' w.heap.size 0 cs) := Lib.hid fun w' h => core7_below hxx (by omega) h
  have HAx : Hid (∀ w', Below W.heap.size W w' → K.Cr.at w' x cs) := Lib.hid fun w' h => K.Cr.at_below (hbW.trans (h.mono hbW.size)) (Nat.le_refl _) _ _ hx
  have HXv : Hid (∀ w', Below W.heap.size W w' → Val3 w' (w.heap.size + 1) 0 ds) := Lib.hid fun w' h => Val3.below hxv (by omega) h
  have HAv : Hid (∀ w', Below W.heap.size W w' → Vl.at w' v ds) := Lib.hid fun w' h => Vl.at_below (hbW.trans (h.mono hbW.size)) (Nat.le_refl _) _ _ hv
  have HXu : Hid (∀ w', Below W.heap.size W w' → Val3 w' (w.heap.size + 2) 0 es) := Lib.hid fun w' h => Val3.below hxu (by omega) h
  have HAu : Hid (∀ w', Below W.heap.size W w' → Vl.at w' u es) := Lib.hid fun w' h => Vl.at_below (hbW.trans (h.mono hbW.size)) (Nat.le_refl _) _ _ hu
  have HbW := Lib.hid hbW
  have HsW := Lib.hid hsW
  clear hbW hsW hxx hxv hxu
  have Hsv := Lib.hid hsv
  have Hsu := Lib.hid hsu
  obtain ⟨kx, sx, nx, ax, lenx, capx, rfl⟩ := K.at_lit hx
  obtain ⟨kv, zv, av, lenv, capv, rfl⟩ := at_lit hv
  obtain ⟨ku, zu, au, lenu, capu, rfl⟩ := at_lit hu
  have Hb0 := Lib.hid (Below.refl W.heap.size W)
  clear hx hv hu hsv hsu
  go_enter Try.func6, Try.ntmps6
  go_upto_region 1 with fail
  rw [← hW]
  clear hW
  go_wp2_with fail
  refine (awake11_any _).mono ?_
  rintro e w1 ⟨rfl, hb'⟩
  have Hb1 := Lib.hid (Hb0.out.trans (hb'.mono Hb0.out.size))
  clear hb'
  go_wp2_with (first | (refine K.wpList_load_core rfl _ rfl w.heap.size 0 _ rfl (HXx.out _ Hb1.out) ?_) | fail)
  refine (K.big_any 100 x _ _ (by decide) (HAx.out _ Hb1.out)).mono ?_
  rintro e w2 ⟨rfl, hb'⟩
  have Hb2 := Lib.hid (Hb1.out.trans (hb'.mono Hb1.out.size))
  clear hb'
  generalize K.bigN 100 x = bx at *
  cases bx
  case true =>
    go_wp2_with fail
    go_ret
    exact ⟨rfl, HbW.out.trans (Hb2.out.mono HbW.out.size)⟩
  go_wp2_with (first | (refine wpList_load_val_want rfl _ rfl (w.heap.size + 1) 0 _ rfl (HXv.out _ Hb2.out) ?_) | fail)
  refine (wide_any 40 v _ _ (by decide) (HAv.out _ Hb2.out)).mono ?_
  rintro e w3 ⟨rfl, hb'⟩
  have Hb3 := Lib.hid (Hb2.out.trans (hb'.mono Hb2.out.size))
  clear hb'
  generalize wideN 40 v = bv at *
  cases bv
  case true =>
    go_wp2_with fail
    go_ret
    exact ⟨rfl, HbW.out.trans (Hb3.out.mono HbW.out.size)⟩
  go_wp2_with (first | (refine wpList_load_val_want rfl _ rfl (w.heap.size + 2) 0 _ rfl (HXu.out _ Hb3.out) ?_) | fail)
  refine (wide_any 40 u _ _ (by decide) (HAu.out _ Hb3.out)).mono ?_
  rintro e w4 ⟨rfl, hb'⟩
  have Hb4 := Lib.hid (Hb3.out.trans (hb'.mono Hb3.out.size))
  clear hb'
  generalize wideN 40 u = bu at *
  cases bu
  case true =>
    go_wp2_with fail
    go_ret
    exact ⟨rfl, HbW.out.trans (Hb4.out.mono HbW.out.size)⟩
  go_wp2_with (first
    | (refine K.wpList_load_node_want rfl _ rfl w.heap.size 0 _ rfl (HXx.out _ Hb4.out) ?_)
    | (refine wpList_load_val_want rfl _ rfl (w.heap.size + 1) 0 _ rfl (HXv.out _ Hb4.out) ?_)
    | fail)
  refine (full_z (HAx.out _ Hb4.out) (HAv.out _ Hb4.out) Hsv.out).mono ?_
  rintro e w5 ⟨rfl, hb'⟩
  have Hb5 := Lib.hid (Hb4.out.trans (hb'.mono Hb4.out.size))
  clear hb'
  cases hfv : (K.goodC x && bel x v && v.fullB)
  case false =>
    go_wp2_with fail
    go_ret
    exact ⟨rfl, HbW.out.trans (Hb5.out.mono HbW.out.size)⟩
  rw [Bool.and_eq_true, Bool.and_eq_true] at hfv
  have Hfv := Lib.hid hfv
  clear hfv
  go_wp2_with (first
    | (refine K.wpList_load_node_want rfl _ rfl w.heap.size 0 _ rfl (HXx.out _ Hb5.out) ?_)
    | (refine wpList_load_val_want rfl _ rfl (w.heap.size + 2) 0 _ rfl (HXu.out _ Hb5.out) ?_)
    | fail)
  refine (full_z (HAx.out _ Hb5.out) (HAu.out _ Hb5.out) Hsu.out).mono ?_
  rintro e w6 ⟨rfl, hb'⟩
  have Hb6 := Lib.hid (Hb5.out.trans (hb'.mono Hb5.out.size))
  clear hb'
  cases hfu : (K.goodC x && bel x u && u.fullB)
  case false =>
    go_wp2_with fail
    go_ret
    exact ⟨rfl, HbW.out.trans (Hb6.out.mono HbW.out.size)⟩
  rw [Bool.and_eq_true, Bool.and_eq_true] at hfu
  have Hfu := Lib.hid hfu
  clear hfu
  go_upto_region 5 with fail
  obtain ⟨wd, hwd⟩ : ∃ wd, wd = w6.drew := ⟨_, rfl⟩
  have hBd : Below w6.heap.size w6 wd := by rw [hwd]; exact (Below.refl _ _).drew
  have hNE := HeldW.nonempty (S := fun w' => Below w6.heap.size w6 w') hBd
  refine wp_region_hold (fun w' => Below w6.heap.size w6 w') (.plain 0 (.plain 2 (.sole 1 (.sole 3 (.plain 4 (.plain 5 .done)))))) (by rw [← hwd]; exact hBd) (by kernel_rfl) (by kernel_rfl) (fun c a d v w h => by cases d <;> exact h) ?_
  rw [← hwd]
  clear hwd
  repeat (first
      | (refine' hold_skip ?_ ?_ ?_
         rotate_left 1
         · simp only [List.getElem?_toArray, List.getElem?_cons_zero, List.getElem?_cons_succ]; exact rfl
         · exact rfl
         simp only [Act.put, List.setIfInBounds_toArray, List.set_cons_zero, List.set_cons_succ])
      | (refine' hold_want ?_ ?_ (fun J hJ => ?_)
         rotate_left 1
         · simp only [List.getElem?_toArray, List.getElem?_cons_zero, List.getElem?_cons_succ]; exact rfl
         · exact rfl
         first
         | (refine quiet_load_val _ rfl (w.heap.size + 1) 0 _ rfl (fun w' ⟨L, hL⟩ => HXv.out _ (Hb6.out.trans ((hL ▸ L.ok : Below w6.heap.size w6 w').mono Hb6.out.size))) ?_; refine hJ _ ?_; clear hJ J; try simp only [Act.put, List.setIfInBounds_toArray, List.set_cons_zero, List.set_cons_succ])
         | (refine quiet_load_val _ rfl (w.heap.size + 2) 0 _ rfl (fun w' ⟨L, hL⟩ => HXu.out _ (Hb6.out.trans ((hL ▸ L.ok : Below w6.heap.size w6 w').mono Hb6.out.size))) ?_; refine hJ _ ?_; clear hJ J; try simp only [Act.put, List.setIfInBounds_toArray, List.set_cons_zero, List.set_cons_succ])
         | (refine quiet_extract _ _ rfl _ _ rfl rfl ?_; refine hJ _ ?_; clear hJ J; try simp only [Act.put, List.setIfInBounds_toArray, List.set_cons_zero, List.set_cons_succ])
         | (go_big_quiet_op; refine hJ _ ?_; clear hJ J; try simp only [Act.put, List.setIfInBounds_toArray, List.set_cons_zero, List.set_cons_succ])))
  refine' hold_sole ?_ ?_ (fun J hJ => ?_)
  rotate_left 1
  · simp only [List.getElem?_toArray, List.getElem?_cons_zero, List.getElem?_cons_succ]; exact rfl
  · exact rfl
  go_simp
  refine (flat_z (HAv.out _ (Hb6.out.trans (hBd.mono Hb6.out.size))) Hsv.out).mono ?_
  rintro e w7 ⟨p7, c7, rfl, hy7, hb'⟩
  have hB7 : Below w6.heap.size w6 w7 := hBd.trans (hb'.mono hBd.size)
  refine hJ _ _ hB7 ?_
  clear hJ J hb'
  try simp only [Act.put, List.setIfInBounds_toArray, List.set_cons_zero, List.set_cons_succ]
  refine' hold_sole ?_ ?_ (fun J hJ => ?_)
  rotate_left 1
  · simp only [List.getElem?_toArray, List.getElem?_cons_zero, List.getElem?_cons_succ]; exact rfl
  · exact rfl
  go_simp
  refine (flat_z (HAu.out _ (Hb6.out.trans (hB7.mono Hb6.out.size))) Hsu.out).mono ?_
  rintro e w8 ⟨p8, c8, rfl, hy8, hb'⟩
  have hB8 : Below w6.heap.size w6 w8 := hB7.trans (hb'.mono hB7.size)
  have hy7' := bytes_keep hy7 hb'
  refine hJ _ _ hB8 ?_
  clear hJ J hb'
  try simp only [Act.put, List.setIfInBounds_toArray, List.set_cons_zero, List.set_cons_succ]
  repeat (first
      | (refine' hold_skip ?_ ?_ ?_
         rotate_left 1
         · simp only [List.getElem?_toArray, List.getElem?_cons_zero, List.getElem?_cons_succ]; exact rfl
         · exact rfl
         simp only [Act.put, List.setIfInBounds_toArray, List.set_cons_zero, List.set_cons_succ])
      | (refine' hold_want ?_ ?_ (fun J hJ => ?_)
         rotate_left 1
         · simp only [List.getElem?_toArray, List.getElem?_cons_zero, List.getElem?_cons_succ]; exact rfl
         · exact rfl
         first
         | (refine quiet_load_val _ rfl (w.heap.size + 1) 0 _ rfl (fun w' ⟨L, hL⟩ => HXv.out _ (Hb6.out.trans ((hL ▸ L.ok : Below w6.heap.size w6 w').mono Hb6.out.size))) ?_; refine hJ _ ?_; clear hJ J; try simp only [Act.put, List.setIfInBounds_toArray, List.set_cons_zero, List.set_cons_succ])
         | (refine quiet_load_val _ rfl (w.heap.size + 2) 0 _ rfl (fun w' ⟨L, hL⟩ => HXu.out _ (Hb6.out.trans ((hL ▸ L.ok : Below w6.heap.size w6 w').mono Hb6.out.size))) ?_; refine hJ _ ?_; clear hJ J; try simp only [Act.put, List.setIfInBounds_toArray, List.set_cons_zero, List.set_cons_succ])
         | (refine quiet_extract _ _ rfl _ _ rfl rfl ?_; refine hJ _ ?_; clear hJ J; try simp only [Act.put, List.setIfInBounds_toArray, List.set_cons_zero, List.set_cons_succ])
         | (go_big_quiet_op; refine hJ _ ?_; clear hJ J; try simp only [Act.put, List.setIfInBounds_toArray, List.set_cons_zero, List.set_cons_succ])))
  refine hold_done ?_
  have Hb8 := Lib.hid (Hb6.out.trans (hB8.mono Hb6.out.size))
  obtain ⟨X, hX⟩ : ∃ X, X = v.flat := ⟨_, rfl⟩
  obtain ⟨Y, hY⟩ : ∃ Y, Y = u.flat := ⟨_, rfl⟩
  rw [← hX] at hy7'
  rw [← hY] at hy8
  rw [← hX, ← hY]
  have Hy7 := Lib.hid hy7'
  have Hy8 := Lib.hid hy8
  have HX := Lib.hid hX
  have HY := Lib.hid hY
  obtain ⟨lx, hlx⟩ : ∃ lx, lx = X.length := ⟨_, rfl⟩
  obtain ⟨ly, hly⟩ : ∃ ly, ly = Y.length := ⟨_, rfl⟩
  rw [← hlx, ← hly]
  have HLx := Lib.hid hlx
  have HLy := Lib.hid hly
  clear hy7 hy7' hy8 hX hY hlx hly hB7 hB8 hBd hNE
  go_upto_region 6 with fail
  obtain ⟨wd, hwd⟩ : ∃ wd, wd = w8.drew := ⟨_, rfl⟩
  have hBd : Below w8.heap.size w8 wd := by rw [hwd]; exact (Below.refl _ _).drew
  have hNE := HeldW.nonempty (S := fun w' => Below w8.heap.size w8 w') hBd
  by_cases hgt : ly < lx
  case pos =>
    have d1 : decide ((lx : Int) > ly) = true := by simp; omega
    have d2 : decide ((ly : Int) < lx) = true := by simp; omega
    have d3 : decide (ly < lx) = true := by simp; omega
    clear hgt
    refine wp_region_hold (fun w' => Below w8.heap.size w8 w') (.plain 0 (.plain 1 (.plain 2 (.plain 3 (.plain 4 (.plain 5 (.plain 6 (.plain 7 (.plain 8 (.plain 9 (.plain 10 (.plain 11 (.plain 12 (.plain 13 (.plain 14 .done))))))))))))))) (by rw [← hwd]; exact hBd) (by kernel_rfl) (by kernel_rfl) (fun c a d v w h => by cases d <;> exact h) ?_
    rw [← hwd]
    clear hwd
    repeat (first
        | (refine' hold_skip ?_ ?_ ?_
           rotate_left 1
           · simp only [List.getElem?_toArray, List.getElem?_cons_zero, List.getElem?_cons_succ]; exact rfl
           · exact rfl
           simp only [Act.put, List.setIfInBounds_toArray, List.set_cons_zero, List.set_cons_succ])
        | (refine' hold_want ?_ ?_ (fun J hJ => ?_)
           rotate_left 1
           · simp only [List.getElem?_toArray, List.getElem?_cons_zero, List.getElem?_cons_succ]; exact rfl
           · exact rfl
           first
           | (refine quiet_extract _ _ rfl _ _ rfl rfl ?_; refine hJ _ ?_; clear hJ J; try simp only [Act.put, List.setIfInBounds_toArray, List.set_cons_zero, List.set_cons_succ])
           | (go_big_quiet_op; refine hJ _ ?_; clear hJ J; try simp only [Act.put, List.setIfInBounds_toArray, List.set_cons_zero, List.set_cons_succ])))
    refine hold_done ?_
    go_wp2_with fail
    go_ret
    exact ⟨rfl, HbW.out.trans ((Hb8.out.trans (hBd.mono Hb8.out.size)).mono HbW.out.size)⟩
  have d1 : decide ((lx : Int) > ly) = false := by simp; omega
  have d2 : decide ((ly : Int) < lx) = false := by simp; omega
  have d3 : decide (ly < lx) = false := by simp; omega
  have hlxy : lx ≤ ly := by omega
  have hcap8 : lx ≤ c8 := by have := bytes_cap Hy8.out; have := HLy.out; omega
  have hcapI : (lx : Int) ≤ (c8 : Int) := by omega
  have hlx0 : (0 : Int) ≤ (lx : Int) := by omega
  have htk : BytesAt w8 p8 lx c8 (Y.take lx) := bytes_take Hy8.out (by have := HLy.out; omega)
  obtain ⟨tY, htY⟩ : ∃ tY : ByteArray, tY = ⟨(toBytes (Y.take lx)).toArray⟩ := ⟨_, rfl⟩
  obtain ⟨tX, htX⟩ : ∃ tX : ByteArray, tX = ⟨(toBytes X).toArray⟩ := ⟨_, rfl⟩
  have hsY := fun (w' : World) (h : Below w8.heap.size w8 w') => string_at (bytes_keep htk h)
  have hsX := fun (w' : World) (h : Below w8.heap.size w8 w') => string_at (bytes_keep Hy7.out h)
  rw [← htY] at hsY
  rw [← htX, ← HLx.out] at hsX
  have hnY : nats tY = Y.take lx := by rw [htY]; exact nats_bytes htk.2.1
  have hnX : nats tX = X := by rw [htX]; exact nats_bytes Hy7.out.2.1
  have hcmp : (tY.toList == tX.toList) = decide (Y.take lx = X) := by rw [eq_list, hnY, hnX]
  have HsY := Lib.hid hsY
  have HsX := Lib.hid hsX
  clear hgt htk htY htX hsY hsX hnY hnX
  by_cases hpre : Y.take lx = X
  case neg =>
    rw [decide_eq_false hpre] at hcmp
    clear hpre
    refine wp_region_hold (fun w' => Below w8.heap.size w8 w') (.plain 0 (.plain 1 (.plain 2 (.plain 3 (.plain 4 (.plain 5 (.plain 6 (.plain 7 (.plain 8 (.plain 9 (.plain 10 (.plain 11 (.plain 12 (.plain 13 (.plain 14 .done))))))))))))))) (by rw [← hwd]; exact hBd) (by kernel_rfl) (by kernel_rfl) (fun c a d v w h => by cases d <;> exact h) ?_
    rw [← hwd]
    clear hwd
    repeat (first
        | (refine' hold_skip ?_ ?_ ?_
           rotate_left 1
           · simp only [List.getElem?_toArray, List.getElem?_cons_zero, List.getElem?_cons_succ]; exact rfl
           · exact rfl
           simp only [Act.put, List.setIfInBounds_toArray, List.set_cons_zero, List.set_cons_succ])
        | (refine' hold_want ?_ ?_ (fun J hJ => ?_)
           rotate_left 1
           · simp only [List.getElem?_toArray, List.getElem?_cons_zero, List.getElem?_cons_succ]; exact rfl
           · exact rfl
           first
           | (refine quiet_slice_bytes _ _ rfl p8 ly c8 lx rfl rfl hcap8 ?_; refine hJ _ ?_; clear hJ J; try simp only [Act.put, List.setIfInBounds_toArray, List.set_cons_zero, List.set_cons_succ])
           | (refine quiet_conv _ rfl _ (.string tY) rfl (fun w' ⟨L, hL⟩ => HsY.out w' (hL ▸ L.ok : Below w8.heap.size w8 w')) ?_; refine hJ _ ?_; clear hJ J; try simp only [Act.put, List.setIfInBounds_toArray, List.set_cons_zero, List.set_cons_succ])
           | (refine quiet_conv _ rfl _ (.string tX) rfl (fun w' ⟨L, hL⟩ => HsX.out w' (hL ▸ L.ok : Below w8.heap.size w8 w')) ?_; refine hJ _ ?_; clear hJ J; try simp only [Act.put, List.setIfInBounds_toArray, List.set_cons_zero, List.set_cons_succ])
           | (refine quiet_extract _ _ rfl _ _ rfl rfl ?_; refine hJ _ ?_; clear hJ J; try simp only [Act.put, List.setIfInBounds_toArray, List.set_cons_zero, List.set_cons_succ])
           | (go_big_quiet_op; refine hJ _ ?_; clear hJ J; try simp only [Act.put, List.setIfInBounds_toArray, List.set_cons_zero, List.set_cons_succ])))
    refine hold_done ?_
    go_wp2_with fail
    go_ret
    exact ⟨rfl, HbW.out.trans ((Hb8.out.trans (hBd.mono Hb8.out.size)).mono HbW.out.size)⟩
  rw [decide_eq_true hpre] at hcmp
  have HPre := Lib.hid hpre
  clear hpre
  refine wp_region_hold (fun w' => Below w8.heap.size w8 w') (.plain 0 (.plain 1 (.plain 2 (.plain 3 (.plain 4 (.plain 5 (.plain 6 (.plain 7 (.plain 8 (.plain 9 (.plain 10 (.plain 11 (.plain 12 (.plain 13 (.plain 14 .done))))))))))))))) (by rw [← hwd]; exact hBd) (by kernel_rfl) (by kernel_rfl) (fun c a d v w h => by cases d <;> exact h) ?_
  rw [← hwd]
  clear hwd
  repeat (first
      | (refine' hold_skip ?_ ?_ ?_
         rotate_left 1
         · simp only [List.getElem?_toArray, List.getElem?_cons_zero, List.getElem?_cons_succ]; exact rfl
         · exact rfl
         simp only [Act.put, List.setIfInBounds_toArray, List.set_cons_zero, List.set_cons_succ])
      | (refine' hold_want ?_ ?_ (fun J hJ => ?_)
         rotate_left 1
         · simp only [List.getElem?_toArray, List.getElem?_cons_zero, List.getElem?_cons_succ]; exact rfl
         · exact rfl
         first
         | (refine quiet_slice_bytes _ _ rfl p8 ly c8 lx rfl rfl hcap8 ?_; refine hJ _ ?_; clear hJ J; try simp only [Act.put, List.setIfInBounds_toArray, List.set_cons_zero, List.set_cons_succ])
         | (refine quiet_conv _ rfl _ (.string tY) rfl (fun w' ⟨L, hL⟩ => HsY.out w' (hL ▸ L.ok : Below w8.heap.size w8 w')) ?_; refine hJ _ ?_; clear hJ J; try simp only [Act.put, List.setIfInBounds_toArray, List.set_cons_zero, List.set_cons_succ])
         | (refine quiet_conv _ rfl _ (.string tX) rfl (fun w' ⟨L, hL⟩ => HsX.out w' (hL ▸ L.ok : Below w8.heap.size w8 w')) ?_; refine hJ _ ?_; clear hJ J; try simp only [Act.put, List.setIfInBounds_toArray, List.set_cons_zero, List.set_cons_succ])
         | (refine quiet_extract _ _ rfl _ _ rfl rfl ?_; refine hJ _ ?_; clear hJ J; try simp only [Act.put, List.setIfInBounds_toArray, List.set_cons_zero, List.set_cons_succ])
         | (go_big_quiet_op; refine hJ _ ?_; clear hJ J; try simp only [Act.put, List.setIfInBounds_toArray, List.set_cons_zero, List.set_cons_succ])))
  refine hold_done ?_
  have Hb9 := Lib.hid (Hb8.out.trans (hBd.mono Hb8.out.size))
  obtain ⟨ta, hta⟩ : ∃ ta : ByteArray, nats ta = v.put := ⟨⟨(toBytes v.put).toArray⟩, nats_bytes (put_byte v)⟩
  obtain ⟨tb, htb⟩ : ∃ tb : ByteArray, nats tb = u.put := ⟨⟨(toBytes u.put).toArray⟩, nats_bytes (put_byte u)⟩
  have hprefix : ∃ p, u.flat = v.flat ++ p := by
    obtain ⟨p, hp⟩ := take_iff.1 (by have := HPre.out; rw [HLx.out] at this; exact this)
    exact ⟨p, by rw [← HX.out, ← HY.out]; exact hp⟩
  have hiff : ((∃ q, nats tb = nats ta ++ q) ∨ (∃ q, nats ta = nats tb ++ q)) ↔ v = u := by
    obtain ⟨p, hp⟩ := hprefix
    rw [hta, htb]
    exact put_apart Hfv.out.1.2 Hfu.out.1.2 Hfv.out.2 Hfu.out.2 hp
  have Hta := Lib.hid hta
  have Htb := Lib.hid htb
  have Hiff := Lib.hid hiff
  clear hta htb hprefix hiff hcmp hBd hNE HsX HsY HPre hlxy hcap8 hcapI hlx0 d1 d2 d3
  go_upto_region 8 with fail
  obtain ⟨we, hwe⟩ : ∃ we, we = wd := ⟨_, rfl⟩
  rw [← hwe]
  rw [← hwe] at Hb9
  clear hwe
  obtain ⟨wf, hwd⟩ : ∃ wf, wf = we.drew := ⟨_, rfl⟩
  have hBd : Below we.heap.size we wf := by rw [hwd]; exact (Below.refl _ _).drew
  have hNE := HeldW.nonempty (S := fun w' => Below we.heap.size we w') hBd
  refine wp_region_hold (fun w' => Below we.heap.size we w') (.plain 0 (.plain 2 (.sole 1 (.sole 3 (.plain 4 (.plain 5 .done)))))) (by rw [← hwd]; exact hBd) (by kernel_rfl) (by kernel_rfl) (fun c a d v w h => by cases d <;> exact h) ?_
  rw [← hwd]
  clear hwd
  repeat (first
      | (refine' hold_skip ?_ ?_ ?_
         rotate_left 1
         · simp only [List.getElem?_toArray, List.getElem?_cons_zero, List.getElem?_cons_succ]; exact rfl
         · exact rfl
         simp only [Act.put, List.setIfInBounds_toArray, List.set_cons_zero, List.set_cons_succ])
      | (refine' hold_want ?_ ?_ (fun J hJ => ?_)
         rotate_left 1
         · simp only [List.getElem?_toArray, List.getElem?_cons_zero, List.getElem?_cons_succ]; exact rfl
         · exact rfl
         first
         | (refine quiet_load_val _ rfl (w.heap.size + 1) 0 _ rfl (fun w' ⟨L, hL⟩ => HXv.out _ (Hb9.out.trans ((hL ▸ L.ok : Below we.heap.size we w').mono Hb9.out.size))) ?_; refine hJ _ ?_; clear hJ J; try simp only [Act.put, List.setIfInBounds_toArray, List.set_cons_zero, List.set_cons_succ])
         | (refine quiet_load_val _ rfl (w.heap.size + 2) 0 _ rfl (fun w' ⟨L, hL⟩ => HXu.out _ (Hb9.out.trans ((hL ▸ L.ok : Below we.heap.size we w').mono Hb9.out.size))) ?_; refine hJ _ ?_; clear hJ J; try simp only [Act.put, List.setIfInBounds_toArray, List.set_cons_zero, List.set_cons_succ])
         | (refine quiet_extract _ _ rfl _ _ rfl rfl ?_; refine hJ _ ?_; clear hJ J; try simp only [Act.put, List.setIfInBounds_toArray, List.set_cons_zero, List.set_cons_succ])
         | (go_big_quiet_op; refine hJ _ ?_; clear hJ J; try simp only [Act.put, List.setIfInBounds_toArray, List.set_cons_zero, List.set_cons_succ])))
  refine' hold_sole ?_ ?_ (fun J hJ => ?_)
  rotate_left 1
  · simp only [List.getElem?_toArray, List.getElem?_cons_zero, List.getElem?_cons_succ]; exact rfl
  · exact rfl
  go_simp
  refine (put_y (t := ta) (HAv.out _ (Hb9.out.trans (hBd.mono Hb9.out.size))) Hta.out Hsv.out).mono ?_
  rintro e w10 ⟨rfl, hb'⟩
  have hB10 : Below we.heap.size we w10 := hBd.trans (hb'.mono hBd.size)
  refine hJ _ _ hB10 ?_
  clear hJ J hb'
  try simp only [Act.put, List.setIfInBounds_toArray, List.set_cons_zero, List.set_cons_succ]
  refine' hold_sole ?_ ?_ (fun J hJ => ?_)
  rotate_left 1
  · simp only [List.getElem?_toArray, List.getElem?_cons_zero, List.getElem?_cons_succ]; exact rfl
  · exact rfl
  go_simp
  refine (put_y (t := tb) (HAu.out _ (Hb9.out.trans (hB10.mono Hb9.out.size))) Htb.out Hsu.out).mono ?_
  rintro e w11 ⟨rfl, hb'⟩
  have hB11 : Below we.heap.size we w11 := hB10.trans (hb'.mono hB10.size)
  refine hJ _ _ hB11 ?_
  clear hJ J hb'
  try simp only [Act.put, List.setIfInBounds_toArray, List.set_cons_zero, List.set_cons_succ]
  repeat (first
      | (refine' hold_skip ?_ ?_ ?_
         rotate_left 1
         · simp only [List.getElem?_toArray, List.getElem?_cons_zero, List.getElem?_cons_succ]; exact rfl
         · exact rfl
         simp only [Act.put, List.setIfInBounds_toArray, List.set_cons_zero, List.set_cons_succ])
      | (refine' hold_want ?_ ?_ (fun J hJ => ?_)
         rotate_left 1
         · simp only [List.getElem?_toArray, List.getElem?_cons_zero, List.getElem?_cons_succ]; exact rfl
         · exact rfl
         first
         | (refine quiet_load_val _ rfl (w.heap.size + 1) 0 _ rfl (fun w' ⟨L, hL⟩ => HXv.out _ (Hb9.out.trans ((hL ▸ L.ok : Below we.heap.size we w').mono Hb9.out.size))) ?_; refine hJ _ ?_; clear hJ J; try simp only [Act.put, List.setIfInBounds_toArray, List.set_cons_zero, List.set_cons_succ])
         | (refine quiet_load_val _ rfl (w.heap.size + 2) 0 _ rfl (fun w' ⟨L, hL⟩ => HXu.out _ (Hb9.out.trans ((hL ▸ L.ok : Below we.heap.size we w').mono Hb9.out.size))) ?_; refine hJ _ ?_; clear hJ J; try simp only [Act.put, List.setIfInBounds_toArray, List.set_cons_zero, List.set_cons_succ])
         | (refine quiet_extract _ _ rfl _ _ rfl rfl ?_; refine hJ _ ?_; clear hJ J; try simp only [Act.put, List.setIfInBounds_toArray, List.set_cons_zero, List.set_cons_succ])
         | (go_big_quiet_op; refine hJ _ ?_; clear hJ J; try simp only [Act.put, List.setIfInBounds_toArray, List.set_cons_zero, List.set_cons_succ])))
  refine hold_done ?_
  have Hb11 := Lib.hid (Hb9.out.trans (hB11.mono Hb9.out.size))
  have hsame := same_any v.count v u _ _ _ (Nat.le_refl _) (HAv.out _ Hb11.out) (HAu.out _ Hb11.out)
  have hta0 : (0 : Int) ≤ (ta.size : Int) := by omega
  have htb0 : (0 : Int) ≤ (tb.size : Int) := by omega
  clear hBd hNE hB10 hB11
  cases hs : v.same u
  case true =>
    rw [hs] at hsame
    have Hsame := Lib.hid hsame
    obtain rfl := Vl.same_eq v u hs
    have hab : ta = tb := of_nats (by rw [Hta.out, Htb.out])
    subst hab
    have l1 : decide ((ta.size : Int) ≤ (ta.size : Int)) = true := by simp
    have l2 : ((ta.extract 0 ta.size).toList == ta.toList) = true := by rw [eq_take ta ta (Nat.le_refl _)]; simp
    have l3 : (ta.size : Int) ≤ (ta.size : Int) := Int.le_refl _
    clear hs hsame
    go_wp2_with (first
      | (refine wpList_load_val rfl _ rfl (w.heap.size + 1) 0 _ rfl (HXv.out _ Hb11.out) ?_)
      | (refine wpList_load_val rfl _ rfl (w.heap.size + 2) 0 _ rfl (HXu.out _ Hb11.out) ?_)
      | fail)
    refine Hsame.out.mono ?_
    rintro e w12 ⟨rfl, hb'⟩
    have Hb12 := Lib.hid (Hb11.out.trans (hb'.mono Hb11.out.size))
    clear hb'
    go_wp2_with fail
    go_ret
    exact ⟨rfl, HbW.out.trans (Hb12.out.mono HbW.out.size)⟩
  rw [hs] at hsame
  have Hsame := Lib.hid hsame
  have hne : v ≠ u := fun e => by rw [e, Vl.same_refl] at hs; cases hs
  have hn1 : ¬ ∃ q, nats tb = nats ta ++ q := fun h => hne (Hiff.out.1 (.inl h))
  have hn2 : ¬ ∃ q, nats ta = nats tb ++ q := fun h => hne (Hiff.out.1 (.inr h))
  have hb1 : ta.size ≤ tb.size → ((tb.extract 0 ta.size).toList == ta.toList) = false := fun h => by rw [eq_take tb ta h]; exact decide_eq_false fun e => hn1 (take_iff.1 e)
  have hb2 : tb.size ≤ ta.size → ((ta.extract 0 tb.size).toList == tb.toList) = false := fun h => by rw [eq_take ta tb h]; exact decide_eq_false fun e => hn2 (take_iff.1 e)
  clear hs hsame hne hn1 hn2
  by_cases h1 : ta.size ≤ tb.size
  · have l1 : decide ((ta.size : Int) ≤ (tb.size : Int)) = true := by simp; omega
    have l3 : (ta.size : Int) ≤ (tb.size : Int) := by omega
    have l4 : decide (ta.size ≤ tb.size) = true := by simp; omega
    have l2 := hb1 h1
    by_cases h2 : tb.size ≤ ta.size
    · have m1 : decide ((tb.size : Int) ≤ (ta.size : Int)) = true := by simp; omega
      have m3 : (tb.size : Int) ≤ (ta.size : Int) := by omega
      have m4 : decide (tb.size ≤ ta.size) = true := by simp; omega
      have m2 := hb2 h2
      clear h1 h2 hb1 hb2
      go_wp2_with (first
        | (refine wpList_load_val rfl _ rfl (w.heap.size + 1) 0 _ rfl (HXv.out _ Hb11.out) ?_)
        | (refine wpList_load_val rfl _ rfl (w.heap.size + 2) 0 _ rfl (HXu.out _ Hb11.out) ?_)
        | fail)
      refine Hsame.out.mono ?_
      rintro e w12 ⟨rfl, hb'⟩
      have Hb12 := Lib.hid (Hb11.out.trans (hb'.mono Hb11.out.size))
      clear hb'
      go_wp2_with fail
      go_ret
      exact ⟨rfl, HbW.out.trans (Hb12.out.mono HbW.out.size)⟩
    · have m1 : decide ((tb.size : Int) ≤ (ta.size : Int)) = false := by simp; omega
      have m4 : decide (tb.size ≤ ta.size) = false := by simp; omega
      have m5 : (ta.size : Int) < (tb.size : Int) := by omega
      clear h1 h2 hb1 hb2
      go_wp2_with (first
        | (refine wpList_load_val rfl _ rfl (w.heap.size + 1) 0 _ rfl (HXv.out _ Hb11.out) ?_)
        | (refine wpList_load_val rfl _ rfl (w.heap.size + 2) 0 _ rfl (HXu.out _ Hb11.out) ?_)
        | fail)
      refine Hsame.out.mono ?_
      rintro e w12 ⟨rfl, hb'⟩
      have Hb12 := Lib.hid (Hb11.out.trans (hb'.mono Hb11.out.size))
      clear hb'
      go_wp2_with fail
      go_ret
      exact ⟨rfl, HbW.out.trans (Hb12.out.mono HbW.out.size)⟩
  · have l1 : decide ((ta.size : Int) ≤ (tb.size : Int)) = false := by simp; omega
    have l4 : decide (ta.size ≤ tb.size) = false := by simp; omega
    have l5 : (tb.size : Int) < (ta.size : Int) := by omega
    have h2 : tb.size ≤ ta.size := by omega
    have m1 : decide ((tb.size : Int) ≤ (ta.size : Int)) = true := by simp; omega
    have m3 : (tb.size : Int) ≤ (ta.size : Int) := by omega
    have m4 : decide (tb.size ≤ ta.size) = true := by simp; omega
    have m2 := hb2 h2
    clear h1 h2 hb1 hb2
    go_wp2_with (first
      | (refine wpList_load_val rfl _ rfl (w.heap.size + 1) 0 _ rfl (HXv.out _ Hb11.out) ?_)
      | (refine wpList_load_val rfl _ rfl (w.heap.size + 2) 0 _ rfl (HXu.out _ Hb11.out) ?_)
      | fail)
    refine Hsame.out.mono ?_
    rintro e w12 ⟨rfl, hb'⟩
    have Hb12 := Lib.hid (Hb11.out.trans (hb'.mono Hb11.out.size))
    clear hb'
    go_wp2_with fail
    go_ret
    exact ⟨rfl, HbW.out.trans (Hb12.out.mono HbW.out.size)⟩

end V
end Go.Proofs.Ytklmomgccmekkaa
