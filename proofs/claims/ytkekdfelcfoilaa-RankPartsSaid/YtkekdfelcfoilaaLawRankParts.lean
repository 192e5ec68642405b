/- The law RankParts, walked: any three values. -/
import Derived.Test.YtkekdfelcfoilaaRankLaw
import Derived.Deep.DeepCutAuto
namespace Go.Proofs.Ytkekdfelcfoilaa
namespace V
set_option maxRecDepth 100000
open Go.RowKit
theorem ord_lists {k : Int} {l m : List Vl} (h : lens (cntd (.mk k 0 l)) = lens (cntd (.mk k 0 m))) (hk : k ≠ 2) : ord (.mk k 0 l) (.mk k 0 m) = ordL (cntd (.mk k 0 l)) (cntd (.mk k 0 m)) := by
  rw [ord_eq]
  have h1 : longer (.mk k 0 l) (.mk k 0 m) = 0 := by
    unfold longer
    rw [len_mk, len_mk, if_neg hk, if_neg hk, h, Int.sub_self]; unfold wrap64; omega
  rw [h1, cmpI_self, orI_zero, part_or]
  show orI (cmpI k k) (if k = 2 then _ else _) = _
  rw [cmpI_self, orI_zero, if_neg hk]
theorem lens_one (x : Vl) : lens [x] = x.len := by rw [lens_eq, List.map_cons, List.map_nil, List.sum_cons, List.sum_nil, Int.add_zero, len_wrap]
theorem lens_two (x y : Vl) : lens [x, y] = wrap64 (x.len + y.len) := by rw [lens_eq, List.map_cons, List.map_cons, List.map_nil, List.sum_cons, List.sum_cons, List.sum_nil, Int.add_zero]
theorem ordL_first (x y z : Vl) : ordL [x, z] [y, z] = ord x y := by rw [ordL_cons, ordL_cons, ordL_nil, ord_self, orI_zero, orI_same]
theorem ordL_last (x y z : Vl) : ordL [z, x] [z, y] = ord x y := by rw [ordL_cons, ord_self, orI_zero, ordL_cons, ordL_nil, orI_same]
theorem ord_row1 {x y z : Vl} (h : x.len = y.len) : ord (.mk 3 0 [x, z]) (.mk 3 0 [y, z]) = ord x y := by
  rw [ord_lists (by show lens [x, z] = lens [y, z]; rw [lens_two, lens_two, h]) (by decide)]; exact ordL_first x y z
theorem ord_row2 {x y z : Vl} (h : x.len = y.len) : ord (.mk 3 0 [z, x]) (.mk 3 0 [z, y]) = ord x y := by
  rw [ord_lists (by show lens [z, x] = lens [z, y]; rw [lens_two, lens_two, h]) (by decide)]; exact ordL_last x y z
theorem ord_many {x y z : Vl} (h : x.len = y.len) : ord (.mk 6 0 [z, x]) (.mk 6 0 [z, y]) = ord x y := by
  rw [ord_lists (by show lens [z, x] = lens [z, y]; rw [lens_two, lens_two, h]) (by decide)]; exact ordL_last x y z
theorem ord_left {x y : Vl} (h : x.len = y.len) : ord (.mk 4 0 [x]) (.mk 4 0 [y]) = ord x y := by
  rw [ord_lists (by show lens [x] = lens [y]; rw [lens_one, lens_one, h]) (by decide)]
  show ordL [x] [y] = _
  rw [ordL_cons, ordL_nil, orI_same]
theorem ord_lr {x y : Vl} (h : x.len = y.len) : ord (.mk 4 0 [x]) (.mk 5 0 [y]) = -1 := by
  rw [ord_eq]
  have h1 : longer (.mk 4 0 [x]) (.mk 5 0 [y]) = 0 := by
    unfold longer
    rw [len_mk, len_mk, if_neg (by decide), if_neg (by decide)]
    show wrap64 (lens [x] - lens [y]) = 0
    rw [lens_one, lens_one, h, Int.sub_self]; unfold wrap64; omega
  rw [h1, cmpI_self, orI_zero]
  rfl
theorem later_at {W w' : World} {x : Vl} {cs : List Value} (h : Vl.at W x cs) (hb : Below W.heap.size W w') : Vl.at w' x cs := Vl.at_below hb (Nat.le_refl _) _ _ h
set_option maxHeartbeats 32000000 in
theorem rankParts_walk (x : Vl) (cs : List Value) (y : Vl) (ds : List Value) (z : Vl) (es : List Value) (w : World) (hx : Vl.at w x cs) (hy : Vl.at w y ds) (hz : Vl.at w z es) :
    Calls Try.prog 6 #[.agg cs.toArray, .agg ds.toArray, .agg es.toArray] w fun e w' => e = .returned (.bool true) ∧ Below w.heap.size w w' := by
  obtain ⟨W, hW⟩ : ∃ W, W = ((w.alloc (.cells cs.toArray 25)).alloc (.cells ds.toArray 25)).alloc (.cells es.toArray 25) := ⟨_, rfl⟩
  have hbW : Below w.heap.size w W := by rw [hW]; exact ((((Below.refl _ _).alloc (Nat.le_refl _) _).alloc (by simp) _).alloc (by simp; omega) _)
  have hsW : W.heap.size = w.heap.size + 3 := by rw [hW]; simp
  have hxx : Val3 W w.heap.size 0 cs := by
    have h := World.alloc_heap_new w (.cells cs.toArray 25)
    rw [hW]
    exact Val3.below (val3_in h (at_len hx)) (B := w.heap.size + 1) (by omega) (((Below.refl _ _).alloc (by first | (simp; done) | (simp; omega)) _).alloc (by first | (simp; done) | (simp; omega)) _)
  have hxy : Val3 W (w.heap.size + 1) 0 ds := by
    have h := World.alloc_heap_new (w.alloc (.cells cs.toArray 25)) (.cells ds.toArray 25)
    rw [World.size_alloc] at h
    rw [hW]
    exact Val3.below (val3_in h (at_len hy)) (B := w.heap.size + 2) (by omega) ((Below.refl _ _).alloc (by first | (simp; done) | (simp; omega)) _)
  have hxz : Val3 W (w.heap.size + 2) 0 es := by
    have h := World.alloc_heap_new ((w.alloc (.cells cs.toArray 25)).alloc (.cells ds.toArray 25)) (.cells es.toArray 25)
    rw [World.size_alloc, World.size_alloc] at h
    rw [hW]
    exact (val3_in h (at_len hz))
  have HXx : Hid (∀ w', Below W.heap.size W w' → Val3 w' w.heap.size 0 cs) := Lib.hid fun w' h => Val3.below hxx (by omega) h
  have HAx : Hid (∀ w', Below W.heap.size W w' → Vl.at w' x cs) := Lib.hid fun w' h => Vl.at_below (hbW.trans (h.mono hbW.size)) (Nat.le_refl _) _ _ hx
  have HXy : Hid (∀ w', Below W.heap.size W w' → Val3 w' (w.heap.size + 1) 0 ds) := Lib.hid fun w' h => Val3.below hxy (by omega) h
  have HAy : Hid (∀ w', Below W.heap.size W w' → Vl.at w' y ds) := Lib.hid fun w' h => Vl.at_below (hbW.trans (h.mono hbW.size)) (Nat.le_refl _) _ _ hy
  have HXz : Hid (∀ w', Below W.heap.size W w' → Val3 w' (w.heap.size + 2) 0 es) := Lib.hid fun w' h => Val3.below hxz (by omega) h
  have HAz : Hid (∀ w', Below W.heap.size W w' → Vl.at w' z es) := Lib.hid fun w' h => Vl.at_below (hbW.trans (h.mono hbW.size)) (Nat.le_refl _) _ _ hz
  have HbW := Lib.hid hbW
  have HsW := Lib.hid hsW
  clear hbW hsW hxx hxy hxz
  have Haw : Hid (∀ w', Below W.heap.size W w' → Calls Try.prog 8 #[] w' fun e w2 => e = .returned (.bool true) ∧ Below w'.heap.size w' w2) := Lib.hid fun w' h => awake13_any w'
  have Hwx : Hid (∀ w', Below W.heap.size W w' → Calls Try.prog 15 #[.agg cs.toArray, .int .i64 20] w' fun e w2 => e = .returned (.bool (wideN 20 x)) ∧ Below w'.heap.size w' w2) := Lib.hid fun w' h => wide_any 20 x cs w' (by decide) (HAx.out _ h)
  have Hwy : Hid (∀ w', Below W.heap.size W w' → Calls Try.prog 15 #[.agg ds.toArray, .int .i64 20] w' fun e w2 => e = .returned (.bool (wideN 20 y)) ∧ Below w'.heap.size w' w2) := Lib.hid fun w' h => wide_any 20 y ds w' (by decide) (HAy.out _ h)
  have Hwz : Hid (∀ w', Below W.heap.size W w' → Calls Try.prog 15 #[.agg es.toArray, .int .i64 20] w' fun e w2 => e = .returned (.bool (wideN 20 z)) ∧ Below w'.heap.size w' w2) := Lib.hid fun w' h => wide_any 20 z es w' (by decide) (HAz.out _ h)
  have Hlx : Hid (∀ w', Below W.heap.size W w' → Calls Try.prog 18 #[.agg cs.toArray] w' fun e w2 => e = .returned (.int .i64 x.len) ∧ Below w'.heap.size w' w2) := Lib.hid fun w' h => len_any x cs w' (HAx.out _ h)
  have Hly : Hid (∀ w', Below W.heap.size W w' → Calls Try.prog 18 #[.agg ds.toArray] w' fun e w2 => e = .returned (.int .i64 y.len) ∧ Below w'.heap.size w' w2) := Lib.hid fun w' h => len_any y ds w' (HAy.out _ h)
  have Hcxy : Hid (∀ w', Below W.heap.size W w' → Calls Try.prog 14 #[.agg cs.toArray, .agg ds.toArray] w' fun e w2 => e = .returned (.int .i64 (ord x y)) ∧ Below w'.heap.size w' w2) := Lib.hid fun w' h => rank_cmp x y cs ds w' (HAx.out _ h) (HAy.out _ h)
  obtain ⟨k1, z1, a1, len1, cap1, rfl⟩ := at_lit hx
  obtain ⟨k2, z2, a2, len2, cap2, rfl⟩ := at_lit hy
  obtain ⟨k3, z3, a3, len3, cap3, rfl⟩ := at_lit hz
  clear hx hy hz
  cases B0 : wideN 20 x with
  | true =>
    rw [B0] at Hwx
    go_enter Try.func6, Try.ntmps6
    go_upto_region 1 with fail
    rw [← hW]
    clear hW
    go_wp2_with fail
    refine (Haw.out _ (Below.refl _ _)).mono ?_
    rintro e W1 ⟨rfl, hb1⟩
    have Hb1 := Lib.hid hb1
    clear hb1
    go_upto_region 3 with fail
    refine wp_region_later (W0 := W1) (Below.refl _ _) (by kernel_rfl) (by as_aux_lemma => kernel_rfl) ?_
    (go_big_quiet_want; refine quiet_load_val _ rfl w.heap.size 0 [.int .i64 k1, .int .u8 z1, .slice a1 len1 cap1] rfl (fun w' hw' => by obtain ⟨L, rfl⟩ := hw'; exact HXx.out _ (Hb1.out.trans (L.ok.mono Hb1.out.size))) ?_; go_big_quiet_on; try simp only [Act.put, List.setIfInBounds_toArray, List.set_cons_zero, List.set_cons_succ])
    go_big_quiet_step (exact Later.calls (Hwx.out _ (Hb1.out.trans ((Later.ok _).mono Hb1.out.size))))
    go_big_quiet_step (exact rfl)
    go_big_quiet_skip
    go_big_quiet_skip
    go_big_quiet_step (exact rfl)
    go_big_quiet_step (exact rfl)
    go_big_quiet_skip
    go_big_quiet_skip
    go_big_quiet_step (exact rfl)
    go_big_quiet_step (exact rfl)
    go_big_quiet_skip
    go_big_quiet_skip
    go_big_quiet_skip
    go_big_quiet_skip
    go_big_quiet_skip
    go_big_quiet_step (exact rfl)
    refine wpQuiet_nil ?_
    intro w' hw'
    obtain ⟨L', rfl⟩ := hw'
    go_step
    go_step
    go_wp2_with fail
    go_ret
    exact ⟨rfl, HbW.out.trans ((Hb1.out.trans (L'.ok.mono Hb1.out.size)).mono HbW.out.size)⟩
  | false =>
  rw [B0] at Hwx
  cases B1 : wideN 20 y with
  | true =>
    rw [B1] at Hwy
    go_enter Try.func6, Try.ntmps6
    go_upto_region 1 with fail
    rw [← hW]
    clear hW
    go_wp2_with fail
    refine (Haw.out _ (Below.refl _ _)).mono ?_
    rintro e W1 ⟨rfl, hb1⟩
    have Hb1 := Lib.hid hb1
    clear hb1
    go_upto_region 3 with fail
    refine wp_region_later (W0 := W1) (Below.refl _ _) (by kernel_rfl) (by as_aux_lemma => kernel_rfl) ?_
    (go_big_quiet_want; refine quiet_load_val _ rfl w.heap.size 0 [.int .i64 k1, .int .u8 z1, .slice a1 len1 cap1] rfl (fun w' hw' => by obtain ⟨L, rfl⟩ := hw'; exact HXx.out _ (Hb1.out.trans (L.ok.mono Hb1.out.size))) ?_; go_big_quiet_on; try simp only [Act.put, List.setIfInBounds_toArray, List.set_cons_zero, List.set_cons_succ])
    go_big_quiet_step (exact Later.calls (Hwx.out _ (Hb1.out.trans ((Later.ok _).mono Hb1.out.size))))
    go_big_quiet_step (exact rfl)
    (go_big_quiet_want; refine quiet_load_val _ rfl (w.heap.size + 1) 0 [.int .i64 k2, .int .u8 z2, .slice a2 len2 cap2] rfl (fun w' hw' => by obtain ⟨L, rfl⟩ := hw'; exact HXy.out _ (Hb1.out.trans (L.ok.mono Hb1.out.size))) ?_; go_big_quiet_on; try simp only [Act.put, List.setIfInBounds_toArray, List.set_cons_zero, List.set_cons_succ])
    go_big_quiet_step (exact Later.calls (Hwy.out _ (Hb1.out.trans ((Later.ok _).mono Hb1.out.size))))
    go_big_quiet_step (exact rfl)
    go_big_quiet_step (exact rfl)
    go_big_quiet_skip
    go_big_quiet_skip
    go_big_quiet_step (exact rfl)
    go_big_quiet_step (exact rfl)
    go_big_quiet_skip
    go_big_quiet_skip
    go_big_quiet_skip
    go_big_quiet_skip
    go_big_quiet_skip
    go_big_quiet_step (exact rfl)
    refine wpQuiet_nil ?_
    intro w' hw'
    obtain ⟨L', rfl⟩ := hw'
    go_step
    go_step
    go_wp2_with fail
    go_ret
    exact ⟨rfl, HbW.out.trans ((Hb1.out.trans (L'.ok.mono Hb1.out.size)).mono HbW.out.size)⟩
  | false =>
  rw [B1] at Hwy
  cases B2 : wideN 20 z with
  | true =>
    rw [B2] at Hwz
    go_enter Try.func6, Try.ntmps6
    go_upto_region 1 with fail
    rw [← hW]
    clear hW
    go_wp2_with fail
    refine (Haw.out _ (Below.refl _ _)).mono ?_
    rintro e W1 ⟨rfl, hb1⟩
    have Hb1 := Lib.hid hb1
    clear hb1
    go_upto_region 3 with fail
    refine wp_region_later (W0 := W1) (Below.refl _ _) (by kernel_rfl) (by as_aux_lemma => kernel_rfl) ?_
    (go_big_quiet_want; refine quiet_load_val _ rfl w.heap.size 0 [.int .i64 k1, .int .u8 z1, .slice a1 len1 cap1] rfl (fun w' hw' => by obtain ⟨L, rfl⟩ := hw'; exact HXx.out _ (Hb1.out.trans (L.ok.mono Hb1.out.size))) ?_; go_big_quiet_on; try simp only [Act.put, List.setIfInBounds_toArray, List.set_cons_zero, List.set_cons_succ])
    go_big_quiet_step (exact Later.calls (Hwx.out _ (Hb1.out.trans ((Later.ok _).mono Hb1.out.size))))
    go_big_quiet_step (exact rfl)
    (go_big_quiet_want; refine quiet_load_val _ rfl (w.heap.size + 1) 0 [.int .i64 k2, .int .u8 z2, .slice a2 len2 cap2] rfl (fun w' hw' => by obtain ⟨L, rfl⟩ := hw'; exact HXy.out _ (Hb1.out.trans (L.ok.mono Hb1.out.size))) ?_; go_big_quiet_on; try simp only [Act.put, List.setIfInBounds_toArray, List.set_cons_zero, List.set_cons_succ])
    go_big_quiet_step (exact Later.calls (Hwy.out _ (Hb1.out.trans ((Later.ok _).mono Hb1.out.size))))
    go_big_quiet_step (exact rfl)
    go_big_quiet_step (exact rfl)
    (go_big_quiet_want; refine quiet_load_val _ rfl (w.heap.size + 2) 0 [.int .i64 k3, .int .u8 z3, .slice a3 len3 cap3] rfl (fun w' hw' => by obtain ⟨L, rfl⟩ := hw'; exact HXz.out _ (Hb1.out.trans (L.ok.mono Hb1.out.size))) ?_; go_big_quiet_on; try simp only [Act.put, List.setIfInBounds_toArray, List.set_cons_zero, List.set_cons_succ])
    go_big_quiet_step (exact Later.calls (Hwz.out _ (Hb1.out.trans ((Later.ok _).mono Hb1.out.size))))
    go_big_quiet_step (exact rfl)
    go_big_quiet_step (exact rfl)
    go_big_quiet_skip
    go_big_quiet_skip
    go_big_quiet_skip
    go_big_quiet_skip
    go_big_quiet_skip
    go_big_quiet_step (exact rfl)
    refine wpQuiet_nil ?_
    intro w' hw'
    obtain ⟨L', rfl⟩ := hw'
    go_step
    go_step
    go_wp2_with fail
    go_ret
    exact ⟨rfl, HbW.out.trans ((Hb1.out.trans (L'.ok.mono Hb1.out.size)).mono HbW.out.size)⟩
  | false =>
  rw [B2] at Hwz
  by_cases hlen : x.len = y.len
  rotate_left 1
  · have e1 : (x.len != y.len) = true := by simp [hlen]
    generalize x.len = n1 at *
    generalize y.len = n2 at *
    clear hlen
    go_enter Try.func6, Try.ntmps6
    go_upto_region 1 with fail
    rw [← hW]
    clear hW
    go_wp2_with fail
    refine (Haw.out _ (Below.refl _ _)).mono ?_
    rintro e W1 ⟨rfl, hb1⟩
    have Hb1 := Lib.hid hb1
    clear hb1
    go_upto_region 3 with fail
    refine wp_region_later (W0 := W1) (Below.refl _ _) (by kernel_rfl) (by as_aux_lemma => kernel_rfl) ?_
    (go_big_quiet_want; refine quiet_load_val _ rfl w.heap.size 0 [.int .i64 k1, .int .u8 z1, .slice a1 len1 cap1] rfl (fun w' hw' => by obtain ⟨L, rfl⟩ := hw'; exact HXx.out _ (Hb1.out.trans (L.ok.mono Hb1.out.size))) ?_; go_big_quiet_on; try simp only [Act.put, List.setIfInBounds_toArray, List.set_cons_zero, List.set_cons_succ])
    go_big_quiet_step (exact Later.calls (Hwx.out _ (Hb1.out.trans ((Later.ok _).mono Hb1.out.size))))
    go_big_quiet_step (exact rfl)
    (go_big_quiet_want; refine quiet_load_val _ rfl (w.heap.size + 1) 0 [.int .i64 k2, .int .u8 z2, .slice a2 len2 cap2] rfl (fun w' hw' => by obtain ⟨L, rfl⟩ := hw'; exact HXy.out _ (Hb1.out.trans (L.ok.mono Hb1.out.size))) ?_; go_big_quiet_on; try simp only [Act.put, List.setIfInBounds_toArray, List.set_cons_zero, List.set_cons_succ])
    go_big_quiet_step (exact Later.calls (Hwy.out _ (Hb1.out.trans ((Later.ok _).mono Hb1.out.size))))
    go_big_quiet_step (exact rfl)
    go_big_quiet_step (exact rfl)
    (go_big_quiet_want; refine quiet_load_val _ rfl (w.heap.size + 2) 0 [.int .i64 k3, .int .u8 z3, .slice a3 len3 cap3] rfl (fun w' hw' => by obtain ⟨L, rfl⟩ := hw'; exact HXz.out _ (Hb1.out.trans (L.ok.mono Hb1.out.size))) ?_; go_big_quiet_on; try simp only [Act.put, List.setIfInBounds_toArray, List.set_cons_zero, List.set_cons_succ])
    go_big_quiet_step (exact Later.calls (Hwz.out _ (Hb1.out.trans ((Later.ok _).mono Hb1.out.size))))
    go_big_quiet_step (exact rfl)
    go_big_quiet_step (exact rfl)
    (go_big_quiet_want; refine quiet_load_val _ rfl w.heap.size 0 [.int .i64 k1, .int .u8 z1, .slice a1 len1 cap1] rfl (fun w' hw' => by obtain ⟨L, rfl⟩ := hw'; exact HXx.out _ (Hb1.out.trans (L.ok.mono Hb1.out.size))) ?_; go_big_quiet_on; try simp only [Act.put, List.setIfInBounds_toArray, List.set_cons_zero, List.set_cons_succ])
    go_big_quiet_step (exact Later.calls (Hlx.out _ (Hb1.out.trans ((Later.ok _).mono Hb1.out.size))))
    (go_big_quiet_want; refine quiet_load_val _ rfl (w.heap.size + 1) 0 [.int .i64 k2, .int .u8 z2, .slice a2 len2 cap2] rfl (fun w' hw' => by obtain ⟨L, rfl⟩ := hw'; exact HXy.out _ (Hb1.out.trans (L.ok.mono Hb1.out.size))) ?_; go_big_quiet_on; try simp only [Act.put, List.setIfInBounds_toArray, List.set_cons_zero, List.set_cons_succ])
    go_big_quiet_step (exact Later.calls (Hly.out _ (Hb1.out.trans ((Later.ok _).mono Hb1.out.size))))
    go_big_quiet_step (exact rfl)
    go_big_quiet_step (exact rfl)
    refine wpQuiet_nil ?_
    intro w' hw'
    obtain ⟨L', rfl⟩ := hw'
    go_step
    go_step
    go_wp2_with fail
    go_ret
    exact ⟨rfl, HbW.out.trans ((Hb1.out.trans (L'.ok.mono Hb1.out.size)).mono HbW.out.size)⟩
  have HE := Lib.hid (And.intro (ord_row1 (z := z) hlen) (And.intro (ord_row2 (z := z) hlen) (And.intro (ord_left hlen) (And.intro (ord_many (z := z) hlen) (ord_lr hlen)))))
  have e1 : (x.len != y.len) = false := by simp [hlen]
  generalize ord x y = X at *
  generalize x.len = n1 at *
  generalize y.len = n2 at *
  clear hlen
  go_enter Try.func6, Try.ntmps6
  go_upto_region 1 with fail
  rw [← hW]
  clear hW
  go_wp2_with fail
  refine (Haw.out _ (Below.refl _ _)).mono ?_
  rintro e W1 ⟨rfl, hb1⟩
  have Hb1 := Lib.hid hb1
  clear hb1
  go_upto_region 3 with fail
  refine wp_region_later (W0 := W1) (Below.refl _ _) (by kernel_rfl) (by as_aux_lemma => kernel_rfl) ?_
  (go_big_quiet_want; refine quiet_load_val _ rfl w.heap.size 0 [.int .i64 k1, .int .u8 z1, .slice a1 len1 cap1] rfl (fun w' hw' => by obtain ⟨L, rfl⟩ := hw'; exact HXx.out _ (Hb1.out.trans (L.ok.mono Hb1.out.size))) ?_; go_big_quiet_on; try simp only [Act.put, List.setIfInBounds_toArray, List.set_cons_zero, List.set_cons_succ])
  go_big_quiet_step (exact Later.calls (Hwx.out _ (Hb1.out.trans ((Later.ok _).mono Hb1.out.size))))
  go_big_quiet_step (exact rfl)
  (go_big_quiet_want; refine quiet_load_val _ rfl (w.heap.size + 1) 0 [.int .i64 k2, .int .u8 z2, .slice a2 len2 cap2] rfl (fun w' hw' => by obtain ⟨L, rfl⟩ := hw'; exact HXy.out _ (Hb1.out.trans (L.ok.mono Hb1.out.size))) ?_; go_big_quiet_on; try simp only [Act.put, List.setIfInBounds_toArray, List.set_cons_zero, List.set_cons_succ])
  go_big_quiet_step (exact Later.calls (Hwy.out _ (Hb1.out.trans ((Later.ok _).mono Hb1.out.size))))
  go_big_quiet_step (exact rfl)
  go_big_quiet_step (exact rfl)
  (go_big_quiet_want; refine quiet_load_val _ rfl (w.heap.size + 2) 0 [.int .i64 k3, .int .u8 z3, .slice a3 len3 cap3] rfl (fun w' hw' => by obtain ⟨L, rfl⟩ := hw'; exact HXz.out _ (Hb1.out.trans (L.ok.mono Hb1.out.size))) ?_; go_big_quiet_on; try simp only [Act.put, List.setIfInBounds_toArray, List.set_cons_zero, List.set_cons_succ])
  go_big_quiet_step (exact Later.calls (Hwz.out _ (Hb1.out.trans ((Later.ok _).mono Hb1.out.size))))
  go_big_quiet_step (exact rfl)
  go_big_quiet_step (exact rfl)
  (go_big_quiet_want; refine quiet_load_val _ rfl w.heap.size 0 [.int .i64 k1, .int .u8 z1, .slice a1 len1 cap1] rfl (fun w' hw' => by obtain ⟨L, rfl⟩ := hw'; exact HXx.out _ (Hb1.out.trans (L.ok.mono Hb1.out.size))) ?_; go_big_quiet_on; try simp only [Act.put, List.setIfInBounds_toArray, List.set_cons_zero, List.set_cons_succ])
  go_big_quiet_step (exact Later.calls (Hlx.out _ (Hb1.out.trans ((Later.ok _).mono Hb1.out.size))))
  (go_big_quiet_want; refine quiet_load_val _ rfl (w.heap.size + 1) 0 [.int .i64 k2, .int .u8 z2, .slice a2 len2 cap2] rfl (fun w' hw' => by obtain ⟨L, rfl⟩ := hw'; exact HXy.out _ (Hb1.out.trans (L.ok.mono Hb1.out.size))) ?_; go_big_quiet_on; try simp only [Act.put, List.setIfInBounds_toArray, List.set_cons_zero, List.set_cons_succ])
  go_big_quiet_step (exact Later.calls (Hly.out _ (Hb1.out.trans ((Later.ok _).mono Hb1.out.size))))
  go_big_quiet_step (exact rfl)
  go_big_quiet_step (exact rfl)
  refine wpQuiet_nil ?_
  intro w' hw'
  obtain ⟨L', rfl⟩ := hw'
  have Hb4 := Lib.hid (Hb1.out.trans (L'.ok.mono Hb1.out.size))
  generalize L'.val = W4 at Hb4 ⊢
  clear L'
  go_step
  go_step
  go_wp2_with (first
    | (refine wpList_load_val rfl _ rfl w.heap.size 0 _ rfl (HXx.out _ Hb4.out) ?_)
    | (refine wpList_load_val rfl _ rfl (w.heap.size + 1) 0 _ rfl (HXy.out _ Hb4.out) ?_)
    | fail)
  refine (Hcxy.out _ Hb4.out).mono ?_
  rintro e W5 ⟨rfl, hb5⟩
  have Hb5 := Lib.hid (Hb4.out.trans (hb5.mono Hb4.out.size))
  clear hb5
  have H2x := Lib.hid (HXx.out _ Hb5.out)
  have H2z := Lib.hid (HXz.out _ Hb5.out)
  have HA5 := Lib.hid (And.intro (HAx.out _ Hb5.out) (And.intro (HAy.out _ Hb5.out) (HAz.out _ Hb5.out)))
  obtain ⟨V1, hV1⟩ : ∃ V1, V1 = W5.alloc (.cells #[.int .i64 k3, .int .u8 z3, .slice a3 len3 cap3, .int .i64 k1, .int .u8 z1, .slice a1 len1 cap1] 25) := ⟨_, rfl⟩
  obtain ⟨V2, hV2⟩ : ∃ V2, V2 = V1.alloc (.cells #[.int .i64 k3, .int .u8 z3, .slice a3 len3 cap3, .int .i64 k2, .int .u8 z2, .slice a2 len2 cap2] 25) := ⟨_, rfl⟩
  obtain ⟨V3, hV3⟩ : ∃ V3, V3 = V2.alloc (.cells #[.int .i64 6, .int .u8 0, .slice (some ⟨W5.heap.size, 0, none⟩) 2 2, .int .i64 6, .int .u8 0, .slice (some ⟨W5.heap.size + 1, 0, none⟩) 2 2] 25) := ⟨_, rfl⟩
  have hs1 : V1.heap.size = W5.heap.size + 1 := by rw [hV1]; simp
  have hs2 : V2.heap.size = W5.heap.size + 2 := by rw [hV2]; simp [hs1]
  have hb1 : Below W5.heap.size W5 V1 := by rw [hV1]; exact (Below.refl _ _).alloc (Nat.le_refl _) _
  have hb2 : Below V1.heap.size V1 V2 := by rw [hV2]; exact (Below.refl _ _).alloc (Nat.le_refl _) _
  have hb3 : Below V2.heap.size V2 V3 := by rw [hV3]; exact (Below.refl _ _).alloc (Nat.le_refl _) _
  have m1 : Vl.at V1 (.mk 6 0 [z, x]) [.int .i64 6, .int .u8 0, .slice (some ⟨W5.heap.size, 0, none⟩) 2 2] := by
    refine at_made (k := 6) (z := 0) (b := W5.heap.size) rfl (by decide) [(z, [.int .i64 k3, .int .u8 z3, .slice a3 len3 cap3]), (x, [.int .i64 k1, .int .u8 z1, .slice a1 len1 cap1])] (by show 2 ≤ maxLen; decide) ?_ (by rw [hV1]; exact World.alloc_heap_new _ _)
    intro p hp
    simp only [List.mem_cons, List.not_mem_nil, or_false] at hp
    rcases hp with rfl | rfl
    · exact later_at HA5.out.2.2 hb1
    · exact later_at HA5.out.1 hb1
  have m2 : Vl.at V2 (.mk 6 0 [z, y]) [.int .i64 6, .int .u8 0, .slice (some ⟨W5.heap.size + 1, 0, none⟩) 2 2] := by
    refine at_made (k := 6) (z := 0) (b := W5.heap.size + 1) rfl (by decide) [(z, [.int .i64 k3, .int .u8 z3, .slice a3 len3 cap3]), (y, [.int .i64 k2, .int .u8 z2, .slice a2 len2 cap2])] (by show 2 ≤ maxLen; decide) ?_ (by rw [hV2, ← hs1]; exact World.alloc_heap_new _ _)
    intro p hp
    simp only [List.mem_cons, List.not_mem_nil, or_false] at hp
    rcases hp with rfl | rfl
    · exact later_at (later_at HA5.out.2.2 hb1) hb2
    · exact later_at (later_at HA5.out.2.1 hb1) hb2
  have HM1 := Lib.hid (later_at (later_at m1 hb2) hb3)
  have HM2 := Lib.hid (later_at m2 hb3)
  have Hb6 : Hid (Below W.heap.size W V3) := Lib.hid (Hb5.out.trans ((hb1.trans ((hb2.mono (by omega)).trans (hb3.mono (by omega)))).mono Hb5.out.size))
  have hblk : V3.heap[W5.heap.size + 2]? = some (.cells #[.int .i64 6, .int .u8 0, .slice (some ⟨W5.heap.size, 0, none⟩) 2 2, .int .i64 6, .int .u8 0, .slice (some ⟨W5.heap.size + 1, 0, none⟩) 2 2] 25) := by rw [hV3, ← hs2]; exact World.alloc_heap_new _ _
  have HV1 : Hid (Val3 V3 (W5.heap.size + 2) 0 [.int .i64 6, .int .u8 0, .slice (some ⟨W5.heap.size, 0, none⟩) 2 2]) := Lib.hid ⟨rfl, fun q hq => by
    rw [cells_at hblk]
    match q, hq with
    | 0, _ => rfl
    | 1, _ => rfl
    | 2, _ => rfl⟩
  have HV2 : Hid (Val3 V3 (W5.heap.size + 2) 3 [.int .i64 6, .int .u8 0, .slice (some ⟨W5.heap.size + 1, 0, none⟩) 2 2]) := Lib.hid ⟨rfl, fun q hq => by
    rw [cells_at hblk]
    match q, hq with
    | 0, _ => rfl
    | 1, _ => rfl
    | 2, _ => rfl⟩
  have Hbk := Lib.hid (lt_of_block hblk)
  have h2y := HXy.out _ (Hb5.out.trans (hb1.mono Hb5.out.size))
  have h2z := HXz.out _ (Hb5.out.trans (hb1.mono Hb5.out.size))
  rw [hV1] at h2y h2z
  have H2y := Lib.hid h2y
  have H2z' := Lib.hid h2z
  clear h2y h2z
  clear hs1 hs2 hb1 hb2 hb3 m1 m2 hblk
  go_upto_region 7 with (first
    | (refine wpList_load_val rfl _ rfl (w.heap.size + 2) 0 _ rfl H2z.out ?_)
    | (refine wpList_load_val rfl _ rfl w.heap.size 0 _ rfl H2x.out ?_)
    | (refine wpList_load_val rfl _ rfl (w.heap.size + 2) 0 _ rfl H2z'.out ?_)
    | (refine wpList_load_val rfl _ rfl (w.heap.size + 1) 0 _ rfl H2y.out ?_)
    | fail)
  rw [← hV1, ← hV2, ← hV3]
  clear hV1 hV2 hV3
  obtain ⟨wd, hwd⟩ : ∃ wd, wd = V3.drew := ⟨_, rfl⟩
  have hBd : Below V3.heap.size V3 wd := by rw [hwd]; exact (Below.refl _ _).drew
  have hKd : KeptR V3.heap.size V3 wd := KeptR.of_below hBd
  have hNE : Nonempty (HeldW (KeptR V3.heap.size V3)) := ⟨⟨wd, hKd⟩⟩
  refine wp_region_hold (KeptR V3.heap.size V3) (.plain 0 (.plain 1 (.plain 3 (.plain 4 (.plain 7 (.sole 2 (.sole 5 (.sole 6 (.plain 8 (.plain 9 (.plain 10 (.plain 11 (.plain 13 (.plain 14 (.plain 17 (.sole 12 (.sole 15 (.sole 16 (.plain 18 (.plain 19 (.plain 20 (.plain 21 (.plain 23 (.plain 26 (.sole 22 (.sole 24 (.sole 25 (.plain 27 (.plain 28 (.plain 29 (.plain 30 (.plain 31 (.plain 32 (.plain 33 (.plain 34 (.plain 35 (.plain 37 (.sole 36 (.plain 38 (.plain 39 (.plain 40 (.plain 41 (.plain 43 (.sole 42 (.sole 44 (.sole 45 (.plain 46 (.plain 47 (.plain 48 .done))))))))))))))))))))))))))))))))))))))))))))))))) (by rw [← hwd]; exact hKd) (by kernel_rfl) (by kernel_rfl) (fun c a d v w h => by cases d <;> exact h) ?_
  rw [← hwd]
  clear hwd
  repeat (first
      | (refine' hold_skip ?_ ?_ ?_
         rotate_left 1
         · simp only [List.getElem?_toArray, List.getElem?_cons_zero, List.getElem?_cons_succ]; exact rfl
         · exact rfl
         simp only [Act.put, List.setIfInBounds_toArray, List.set_cons_zero, List.set_cons_succ])
      | (refine' hold_want ?_ ?_ (fun J hJ => ?_)
         rotate_left 1
         · simp only [List.getElem?_toArray, List.getElem?_cons_zero, List.getElem?_cons_succ]; exact rfl
         · exact rfl
         first
         | (refine quiet_load_val _ rfl w.heap.size 0 [.int .i64 k1, .int .u8 z1, .slice a1 len1 cap1] rfl (fun w' ⟨L, hL⟩ => hL ▸ HXx.out _ (Hb6.out.trans (L.ok.low.mono Hb6.out.size))) ?_; refine hJ _ ?_; clear hJ J; try simp only [Act.put, List.setIfInBounds_toArray, List.set_cons_zero, List.set_cons_succ])
         | (refine quiet_load_val _ rfl (w.heap.size + 1) 0 [.int .i64 k2, .int .u8 z2, .slice a2 len2 cap2] rfl (fun w' ⟨L, hL⟩ => hL ▸ HXy.out _ (Hb6.out.trans (L.ok.low.mono Hb6.out.size))) ?_; refine hJ _ ?_; clear hJ J; try simp only [Act.put, List.setIfInBounds_toArray, List.set_cons_zero, List.set_cons_succ])
         | (refine quiet_load_val _ rfl (w.heap.size + 2) 0 [.int .i64 k3, .int .u8 z3, .slice a3 len3 cap3] rfl (fun w' ⟨L, hL⟩ => hL ▸ HXz.out _ (Hb6.out.trans (L.ok.low.mono Hb6.out.size))) ?_; refine hJ _ ?_; clear hJ J; try simp only [Act.put, List.setIfInBounds_toArray, List.set_cons_zero, List.set_cons_succ])
         | (refine quiet_load_val _ rfl (W5.heap.size + 2) 0 [.int .i64 6, .int .u8 0, .slice (some ⟨W5.heap.size, 0, none⟩) 2 2] rfl (fun w' ⟨L, hL⟩ => hL ▸ HV1.out.below Hbk.out L.ok.low) ?_; refine hJ _ ?_; clear hJ J; try simp only [Act.put, List.setIfInBounds_toArray, List.set_cons_zero, List.set_cons_succ])
         | (refine quiet_load_val _ rfl (W5.heap.size + 2) 3 [.int .i64 6, .int .u8 0, .slice (some ⟨W5.heap.size + 1, 0, none⟩) 2 2] rfl (fun w' ⟨L, hL⟩ => hL ▸ HV2.out.below Hbk.out L.ok.low) ?_; refine hJ _ ?_; clear hJ J; try simp only [Act.put, List.setIfInBounds_toArray, List.set_cons_zero, List.set_cons_succ])
         | (refine quiet_extract _ _ rfl _ _ rfl rfl ?_; refine hJ _ ?_; clear hJ J; try simp only [Act.put, List.setIfInBounds_toArray, List.set_cons_zero, List.set_cons_succ])
         | (go_big_quiet_op; refine hJ _ ?_; clear hJ J; try simp only [Act.put, List.setIfInBounds_toArray, List.set_cons_zero, List.set_cons_succ])))
  refine' hold_sole ?_ ?_ (fun J hJ => ?_)
  rotate_left 1
  · simp only [List.getElem?_toArray, List.getElem?_cons_zero, List.getElem?_cons_succ]; exact rfl
  · exact rfl
  go_simp
  refine (row_walk (HAx.out _ (Hb6.out.trans (hKd.low.mono Hb6.out.size))) (HAz.out _ (Hb6.out.trans (hKd.low.mono Hb6.out.size)))).mono ?_
  rintro e w21 ⟨zz21, rfl, hat21, hb21⟩
  obtain ⟨p21, q21, r21, u21, v21, rfl⟩ := at_lit hat21
  have hK21 : KeptR V3.heap.size V3 w21 := hKd.trans (KeptR.of_below hb21)
  refine hJ _ _ hK21 ?_
  clear hJ J hb21
  try simp only [Act.put, List.setIfInBounds_toArray, List.set_cons_zero, List.set_cons_succ]
  refine' hold_sole ?_ ?_ (fun J hJ => ?_)
  rotate_left 1
  · simp only [List.getElem?_toArray, List.getElem?_cons_zero, List.getElem?_cons_succ]; exact rfl
  · exact rfl
  go_simp
  refine (row_walk (HAy.out _ (Hb6.out.trans (hK21.low.mono Hb6.out.size))) (HAz.out _ (Hb6.out.trans (hK21.low.mono Hb6.out.size)))).mono ?_
  rintro e w22 ⟨zz22, rfl, hat22, hb22⟩
  obtain ⟨p22, q22, r22, u22, v22, rfl⟩ := at_lit hat22
  have hK22 : KeptR V3.heap.size V3 w22 := hK21.trans (KeptR.of_below hb22)
  have hm42_22 := later_at hat21 hb22
  refine hJ _ _ hK22 ?_
  clear hJ J hb22
  try simp only [Act.put, List.setIfInBounds_toArray, List.set_cons_zero, List.set_cons_succ]
  refine' hold_sole ?_ ?_ (fun J hJ => ?_)
  rotate_left 1
  · simp only [List.getElem?_toArray, List.getElem?_cons_zero, List.getElem?_cons_succ]; exact rfl
  · exact rfl
  go_simp
  refine (cmp_eq hm42_22 hat22 HE.out.1).mono ?_
  rintro e w23 ⟨rfl, hb23⟩
  have hK23 : KeptR V3.heap.size V3 w23 := hK22.trans (KeptR.of_below hb23)
  refine hJ _ _ hK23 ?_
  clear hJ J hb23
  try simp only [Act.put, List.setIfInBounds_toArray, List.set_cons_zero, List.set_cons_succ]
  repeat (first
      | (refine' hold_skip ?_ ?_ ?_
         rotate_left 1
         · simp only [List.getElem?_toArray, List.getElem?_cons_zero, List.getElem?_cons_succ]; exact rfl
         · exact rfl
         simp only [Act.put, List.setIfInBounds_toArray, List.set_cons_zero, List.set_cons_succ])
      | (refine' hold_want ?_ ?_ (fun J hJ => ?_)
         rotate_left 1
         · simp only [List.getElem?_toArray, List.getElem?_cons_zero, List.getElem?_cons_succ]; exact rfl
         · exact rfl
         first
         | (refine quiet_load_val _ rfl w.heap.size 0 [.int .i64 k1, .int .u8 z1, .slice a1 len1 cap1] rfl (fun w' ⟨L, hL⟩ => hL ▸ HXx.out _ (Hb6.out.trans (L.ok.low.mono Hb6.out.size))) ?_; refine hJ _ ?_; clear hJ J; try simp only [Act.put, List.setIfInBounds_toArray, List.set_cons_zero, List.set_cons_succ])
         | (refine quiet_load_val _ rfl (w.heap.size + 1) 0 [.int .i64 k2, .int .u8 z2, .slice a2 len2 cap2] rfl (fun w' ⟨L, hL⟩ => hL ▸ HXy.out _ (Hb6.out.trans (L.ok.low.mono Hb6.out.size))) ?_; refine hJ _ ?_; clear hJ J; try simp only [Act.put, List.setIfInBounds_toArray, List.set_cons_zero, List.set_cons_succ])
         | (refine quiet_load_val _ rfl (w.heap.size + 2) 0 [.int .i64 k3, .int .u8 z3, .slice a3 len3 cap3] rfl (fun w' ⟨L, hL⟩ => hL ▸ HXz.out _ (Hb6.out.trans (L.ok.low.mono Hb6.out.size))) ?_; refine hJ _ ?_; clear hJ J; try simp only [Act.put, List.setIfInBounds_toArray, List.set_cons_zero, List.set_cons_succ])
         | (refine quiet_load_val _ rfl (W5.heap.size + 2) 0 [.int .i64 6, .int .u8 0, .slice (some ⟨W5.heap.size, 0, none⟩) 2 2] rfl (fun w' ⟨L, hL⟩ => hL ▸ HV1.out.below Hbk.out L.ok.low) ?_; refine hJ _ ?_; clear hJ J; try simp only [Act.put, List.setIfInBounds_toArray, List.set_cons_zero, List.set_cons_succ])
         | (refine quiet_load_val _ rfl (W5.heap.size + 2) 3 [.int .i64 6, .int .u8 0, .slice (some ⟨W5.heap.size + 1, 0, none⟩) 2 2] rfl (fun w' ⟨L, hL⟩ => hL ▸ HV2.out.below Hbk.out L.ok.low) ?_; refine hJ _ ?_; clear hJ J; try simp only [Act.put, List.setIfInBounds_toArray, List.set_cons_zero, List.set_cons_succ])
         | (refine quiet_extract _ _ rfl _ _ rfl rfl ?_; refine hJ _ ?_; clear hJ J; try simp only [Act.put, List.setIfInBounds_toArray, List.set_cons_zero, List.set_cons_succ])
         | (go_big_quiet_op; refine hJ _ ?_; clear hJ J; try simp only [Act.put, List.setIfInBounds_toArray, List.set_cons_zero, List.set_cons_succ])))
  refine' hold_sole ?_ ?_ (fun J hJ => ?_)
  rotate_left 1
  · simp only [List.getElem?_toArray, List.getElem?_cons_zero, List.getElem?_cons_succ]; exact rfl
  · exact rfl
  go_simp
  refine (row_walk (HAz.out _ (Hb6.out.trans (hK23.low.mono Hb6.out.size))) (HAx.out _ (Hb6.out.trans (hK23.low.mono Hb6.out.size)))).mono ?_
  rintro e w24 ⟨zz24, rfl, hat24, hb24⟩
  obtain ⟨p24, q24, r24, u24, v24, rfl⟩ := at_lit hat24
  have hK24 : KeptR V3.heap.size V3 w24 := hK23.trans (KeptR.of_below hb24)
  refine hJ _ _ hK24 ?_
  clear hJ J hb24
  try simp only [Act.put, List.setIfInBounds_toArray, List.set_cons_zero, List.set_cons_succ]
  refine' hold_sole ?_ ?_ (fun J hJ => ?_)
  rotate_left 1
  · simp only [List.getElem?_toArray, List.getElem?_cons_zero, List.getElem?_cons_succ]; exact rfl
  · exact rfl
  go_simp
  refine (row_walk (HAz.out _ (Hb6.out.trans (hK24.low.mono Hb6.out.size))) (HAy.out _ (Hb6.out.trans (hK24.low.mono Hb6.out.size)))).mono ?_
  rintro e w25 ⟨zz25, rfl, hat25, hb25⟩
  obtain ⟨p25, q25, r25, u25, v25, rfl⟩ := at_lit hat25
  have hK25 : KeptR V3.heap.size V3 w25 := hK24.trans (KeptR.of_below hb25)
  have hm52_25 := later_at hat24 hb25
  refine hJ _ _ hK25 ?_
  clear hJ J hb25
  try simp only [Act.put, List.setIfInBounds_toArray, List.set_cons_zero, List.set_cons_succ]
  refine' hold_sole ?_ ?_ (fun J hJ => ?_)
  rotate_left 1
  · simp only [List.getElem?_toArray, List.getElem?_cons_zero, List.getElem?_cons_succ]; exact rfl
  · exact rfl
  go_simp
  refine (cmp_eq hm52_25 hat25 HE.out.2.1).mono ?_
  rintro e w26 ⟨rfl, hb26⟩
  have hK26 : KeptR V3.heap.size V3 w26 := hK25.trans (KeptR.of_below hb26)
  refine hJ _ _ hK26 ?_
  clear hJ J hb26
  try simp only [Act.put, List.setIfInBounds_toArray, List.set_cons_zero, List.set_cons_succ]
  repeat (first
      | (refine' hold_skip ?_ ?_ ?_
         rotate_left 1
         · simp only [List.getElem?_toArray, List.getElem?_cons_zero, List.getElem?_cons_succ]; exact rfl
         · exact rfl
         simp only [Act.put, List.setIfInBounds_toArray, List.set_cons_zero, List.set_cons_succ])
      | (refine' hold_want ?_ ?_ (fun J hJ => ?_)
         rotate_left 1
         · simp only [List.getElem?_toArray, List.getElem?_cons_zero, List.getElem?_cons_succ]; exact rfl
         · exact rfl
         first
         | (refine quiet_load_val _ rfl w.heap.size 0 [.int .i64 k1, .int .u8 z1, .slice a1 len1 cap1] rfl (fun w' ⟨L, hL⟩ => hL ▸ HXx.out _ (Hb6.out.trans (L.ok.low.mono Hb6.out.size))) ?_; refine hJ _ ?_; clear hJ J; try simp only [Act.put, List.setIfInBounds_toArray, List.set_cons_zero, List.set_cons_succ])
         | (refine quiet_load_val _ rfl (w.heap.size + 1) 0 [.int .i64 k2, .int .u8 z2, .slice a2 len2 cap2] rfl (fun w' ⟨L, hL⟩ => hL ▸ HXy.out _ (Hb6.out.trans (L.ok.low.mono Hb6.out.size))) ?_; refine hJ _ ?_; clear hJ J; try simp only [Act.put, List.setIfInBounds_toArray, List.set_cons_zero, List.set_cons_succ])
         | (refine quiet_load_val _ rfl (w.heap.size + 2) 0 [.int .i64 k3, .int .u8 z3, .slice a3 len3 cap3] rfl (fun w' ⟨L, hL⟩ => hL ▸ HXz.out _ (Hb6.out.trans (L.ok.low.mono Hb6.out.size))) ?_; refine hJ _ ?_; clear hJ J; try simp only [Act.put, List.setIfInBounds_toArray, List.set_cons_zero, List.set_cons_succ])
         | (refine quiet_load_val _ rfl (W5.heap.size + 2) 0 [.int .i64 6, .int .u8 0, .slice (some ⟨W5.heap.size, 0, none⟩) 2 2] rfl (fun w' ⟨L, hL⟩ => hL ▸ HV1.out.below Hbk.out L.ok.low) ?_; refine hJ _ ?_; clear hJ J; try simp only [Act.put, List.setIfInBounds_toArray, List.set_cons_zero, List.set_cons_succ])
         | (refine quiet_load_val _ rfl (W5.heap.size + 2) 3 [.int .i64 6, .int .u8 0, .slice (some ⟨W5.heap.size + 1, 0, none⟩) 2 2] rfl (fun w' ⟨L, hL⟩ => hL ▸ HV2.out.below Hbk.out L.ok.low) ?_; refine hJ _ ?_; clear hJ J; try simp only [Act.put, List.setIfInBounds_toArray, List.set_cons_zero, List.set_cons_succ])
         | (refine quiet_extract _ _ rfl _ _ rfl rfl ?_; refine hJ _ ?_; clear hJ J; try simp only [Act.put, List.setIfInBounds_toArray, List.set_cons_zero, List.set_cons_succ])
         | (go_big_quiet_op; refine hJ _ ?_; clear hJ J; try simp only [Act.put, List.setIfInBounds_toArray, List.set_cons_zero, List.set_cons_succ])))
  refine' hold_sole ?_ ?_ (fun J hJ => ?_)
  rotate_left 1
  · simp only [List.getElem?_toArray, List.getElem?_cons_zero, List.getElem?_cons_succ]; exact rfl
  · exact rfl
  go_simp
  refine (left_walk (HAx.out _ (Hb6.out.trans (hK26.low.mono Hb6.out.size)))).mono ?_
  rintro e w27 ⟨zz27, rfl, hat27, hb27⟩
  obtain ⟨p27, q27, r27, u27, v27, rfl⟩ := at_lit hat27
  have hK27 : KeptR V3.heap.size V3 w27 := hK26.trans (KeptR.of_below hb27)
  refine hJ _ _ hK27 ?_
  clear hJ J hb27
  try simp only [Act.put, List.setIfInBounds_toArray, List.set_cons_zero, List.set_cons_succ]
  refine' hold_sole ?_ ?_ (fun J hJ => ?_)
  rotate_left 1
  · simp only [List.getElem?_toArray, List.getElem?_cons_zero, List.getElem?_cons_succ]; exact rfl
  · exact rfl
  go_simp
  refine (left_walk (HAy.out _ (Hb6.out.trans (hK27.low.mono Hb6.out.size)))).mono ?_
  rintro e w28 ⟨zz28, rfl, hat28, hb28⟩
  obtain ⟨p28, q28, r28, u28, v28, rfl⟩ := at_lit hat28
  have hK28 : KeptR V3.heap.size V3 w28 := hK27.trans (KeptR.of_below hb28)
  have hm62_28 := later_at hat27 hb28
  refine hJ _ _ hK28 ?_
  clear hJ J hb28
  try simp only [Act.put, List.setIfInBounds_toArray, List.set_cons_zero, List.set_cons_succ]
  refine' hold_sole ?_ ?_ (fun J hJ => ?_)
  rotate_left 1
  · simp only [List.getElem?_toArray, List.getElem?_cons_zero, List.getElem?_cons_succ]; exact rfl
  · exact rfl
  go_simp
  refine (cmp_eq hm62_28 hat28 HE.out.2.2.1).mono ?_
  rintro e w29 ⟨rfl, hb29⟩
  have hK29 : KeptR V3.heap.size V3 w29 := hK28.trans (KeptR.of_below hb29)
  refine hJ _ _ hK29 ?_
  clear hJ J hb29
  try simp only [Act.put, List.setIfInBounds_toArray, List.set_cons_zero, List.set_cons_succ]
  repeat (first
      | (refine' hold_skip ?_ ?_ ?_
         rotate_left 1
         · simp only [List.getElem?_toArray, List.getElem?_cons_zero, List.getElem?_cons_succ]; exact rfl
         · exact rfl
         simp only [Act.put, List.setIfInBounds_toArray, List.set_cons_zero, List.set_cons_succ])
      | (refine' hold_want ?_ ?_ (fun J hJ => ?_)
         rotate_left 1
         · simp only [List.getElem?_toArray, List.getElem?_cons_zero, List.getElem?_cons_succ]; exact rfl
         · exact rfl
         first
         | (refine quiet_load_val _ rfl w.heap.size 0 [.int .i64 k1, .int .u8 z1, .slice a1 len1 cap1] rfl (fun w' ⟨L, hL⟩ => hL ▸ HXx.out _ (Hb6.out.trans (L.ok.low.mono Hb6.out.size))) ?_; refine hJ _ ?_; clear hJ J; try simp only [Act.put, List.setIfInBounds_toArray, List.set_cons_zero, List.set_cons_succ])
         | (refine quiet_load_val _ rfl (w.heap.size + 1) 0 [.int .i64 k2, .int .u8 z2, .slice a2 len2 cap2] rfl (fun w' ⟨L, hL⟩ => hL ▸ HXy.out _ (Hb6.out.trans (L.ok.low.mono Hb6.out.size))) ?_; refine hJ _ ?_; clear hJ J; try simp only [Act.put, List.setIfInBounds_toArray, List.set_cons_zero, List.set_cons_succ])
         | (refine quiet_load_val _ rfl (w.heap.size + 2) 0 [.int .i64 k3, .int .u8 z3, .slice a3 len3 cap3] rfl (fun w' ⟨L, hL⟩ => hL ▸ HXz.out _ (Hb6.out.trans (L.ok.low.mono Hb6.out.size))) ?_; refine hJ _ ?_; clear hJ J; try simp only [Act.put, List.setIfInBounds_toArray, List.set_cons_zero, List.set_cons_succ])
         | (refine quiet_load_val _ rfl (W5.heap.size + 2) 0 [.int .i64 6, .int .u8 0, .slice (some ⟨W5.heap.size, 0, none⟩) 2 2] rfl (fun w' ⟨L, hL⟩ => hL ▸ HV1.out.below Hbk.out L.ok.low) ?_; refine hJ _ ?_; clear hJ J; try simp only [Act.put, List.setIfInBounds_toArray, List.set_cons_zero, List.set_cons_succ])
         | (refine quiet_load_val _ rfl (W5.heap.size + 2) 3 [.int .i64 6, .int .u8 0, .slice (some ⟨W5.heap.size + 1, 0, none⟩) 2 2] rfl (fun w' ⟨L, hL⟩ => hL ▸ HV2.out.below Hbk.out L.ok.low) ?_; refine hJ _ ?_; clear hJ J; try simp only [Act.put, List.setIfInBounds_toArray, List.set_cons_zero, List.set_cons_succ])
         | (refine quiet_extract _ _ rfl _ _ rfl rfl ?_; refine hJ _ ?_; clear hJ J; try simp only [Act.put, List.setIfInBounds_toArray, List.set_cons_zero, List.set_cons_succ])
         | (go_big_quiet_op; refine hJ _ ?_; clear hJ J; try simp only [Act.put, List.setIfInBounds_toArray, List.set_cons_zero, List.set_cons_succ])))
  refine' hold_sole ?_ ?_ (fun J hJ => ?_)
  rotate_left 1
  · simp only [List.getElem?_toArray, List.getElem?_cons_zero, List.getElem?_cons_succ]; exact rfl
  · exact rfl
  go_simp
  refine (cmp_eq (later_at HM1.out hK29.low) (later_at HM2.out hK29.low) HE.out.2.2.2.1).mono ?_
  rintro e w30 ⟨rfl, hb30⟩
  have hK30 : KeptR V3.heap.size V3 w30 := hK29.trans (KeptR.of_below hb30)
  refine hJ _ _ hK30 ?_
  clear hJ J hb30
  try simp only [Act.put, List.setIfInBounds_toArray, List.set_cons_zero, List.set_cons_succ]
  repeat (first
      | (refine' hold_skip ?_ ?_ ?_
         rotate_left 1
         · simp only [List.getElem?_toArray, List.getElem?_cons_zero, List.getElem?_cons_succ]; exact rfl
         · exact rfl
         simp only [Act.put, List.setIfInBounds_toArray, List.set_cons_zero, List.set_cons_succ])
      | (refine' hold_want ?_ ?_ (fun J hJ => ?_)
         rotate_left 1
         · simp only [List.getElem?_toArray, List.getElem?_cons_zero, List.getElem?_cons_succ]; exact rfl
         · exact rfl
         first
         | (refine quiet_load_val _ rfl w.heap.size 0 [.int .i64 k1, .int .u8 z1, .slice a1 len1 cap1] rfl (fun w' ⟨L, hL⟩ => hL ▸ HXx.out _ (Hb6.out.trans (L.ok.low.mono Hb6.out.size))) ?_; refine hJ _ ?_; clear hJ J; try simp only [Act.put, List.setIfInBounds_toArray, List.set_cons_zero, List.set_cons_succ])
         | (refine quiet_load_val _ rfl (w.heap.size + 1) 0 [.int .i64 k2, .int .u8 z2, .slice a2 len2 cap2] rfl (fun w' ⟨L, hL⟩ => hL ▸ HXy.out _ (Hb6.out.trans (L.ok.low.mono Hb6.out.size))) ?_; refine hJ _ ?_; clear hJ J; try simp only [Act.put, List.setIfInBounds_toArray, List.set_cons_zero, List.set_cons_succ])
         | (refine quiet_load_val _ rfl (w.heap.size + 2) 0 [.int .i64 k3, .int .u8 z3, .slice a3 len3 cap3] rfl (fun w' ⟨L, hL⟩ => hL ▸ HXz.out _ (Hb6.out.trans (L.ok.low.mono Hb6.out.size))) ?_; refine hJ _ ?_; clear hJ J; try simp only [Act.put, List.setIfInBounds_toArray, List.set_cons_zero, List.set_cons_succ])
         | (refine quiet_load_val _ rfl (W5.heap.size + 2) 0 [.int .i64 6, .int .u8 0, .slice (some ⟨W5.heap.size, 0, none⟩) 2 2] rfl (fun w' ⟨L, hL⟩ => hL ▸ HV1.out.below Hbk.out L.ok.low) ?_; refine hJ _ ?_; clear hJ J; try simp only [Act.put, List.setIfInBounds_toArray, List.set_cons_zero, List.set_cons_succ])
         | (refine quiet_load_val _ rfl (W5.heap.size + 2) 3 [.int .i64 6, .int .u8 0, .slice (some ⟨W5.heap.size + 1, 0, none⟩) 2 2] rfl (fun w' ⟨L, hL⟩ => hL ▸ HV2.out.below Hbk.out L.ok.low) ?_; refine hJ _ ?_; clear hJ J; try simp only [Act.put, List.setIfInBounds_toArray, List.set_cons_zero, List.set_cons_succ])
         | (refine quiet_extract _ _ rfl _ _ rfl rfl ?_; refine hJ _ ?_; clear hJ J; try simp only [Act.put, List.setIfInBounds_toArray, List.set_cons_zero, List.set_cons_succ])
         | (go_big_quiet_op; refine hJ _ ?_; clear hJ J; try simp only [Act.put, List.setIfInBounds_toArray, List.set_cons_zero, List.set_cons_succ])))
  refine' hold_sole ?_ ?_ (fun J hJ => ?_)
  rotate_left 1
  · simp only [List.getElem?_toArray, List.getElem?_cons_zero, List.getElem?_cons_succ]; exact rfl
  · exact rfl
  go_simp
  refine (left_walk (HAx.out _ (Hb6.out.trans (hK30.low.mono Hb6.out.size)))).mono ?_
  rintro e w31 ⟨zz31, rfl, hat31, hb31⟩
  obtain ⟨p31, q31, r31, u31, v31, rfl⟩ := at_lit hat31
  have hK31 : KeptR V3.heap.size V3 w31 := hK30.trans (KeptR.of_below hb31)
  refine hJ _ _ hK31 ?_
  clear hJ J hb31
  try simp only [Act.put, List.setIfInBounds_toArray, List.set_cons_zero, List.set_cons_succ]
  refine' hold_sole ?_ ?_ (fun J hJ => ?_)
  rotate_left 1
  · simp only [List.getElem?_toArray, List.getElem?_cons_zero, List.getElem?_cons_succ]; exact rfl
  · exact rfl
  go_simp
  refine (right_walk (HAy.out _ (Hb6.out.trans (hK31.low.mono Hb6.out.size)))).mono ?_
  rintro e w32 ⟨zz32, rfl, hat32, hb32⟩
  obtain ⟨p32, q32, r32, u32, v32, rfl⟩ := at_lit hat32
  have hK32 : KeptR V3.heap.size V3 w32 := hK31.trans (KeptR.of_below hb32)
  have hm82_32 := later_at hat31 hb32
  refine hJ _ _ hK32 ?_
  clear hJ J hb32
  try simp only [Act.put, List.setIfInBounds_toArray, List.set_cons_zero, List.set_cons_succ]
  refine' hold_sole ?_ ?_ (fun J hJ => ?_)
  rotate_left 1
  · simp only [List.getElem?_toArray, List.getElem?_cons_zero, List.getElem?_cons_succ]; exact rfl
  · exact rfl
  go_simp
  refine (cmp_eq hm82_32 hat32 HE.out.2.2.2.2).mono ?_
  rintro e w33 ⟨rfl, hb33⟩
  have hK33 : KeptR V3.heap.size V3 w33 := hK32.trans (KeptR.of_below hb33)
  refine hJ _ _ hK33 ?_
  clear hJ J hb33
  try simp only [Act.put, List.setIfInBounds_toArray, List.set_cons_zero, List.set_cons_succ]
  repeat (first
      | (refine' hold_skip ?_ ?_ ?_
         rotate_left 1
         · simp only [List.getElem?_toArray, List.getElem?_cons_zero, List.getElem?_cons_succ]; exact rfl
         · exact rfl
         simp only [Act.put, List.setIfInBounds_toArray, List.set_cons_zero, List.set_cons_succ])
      | (refine' hold_want ?_ ?_ (fun J hJ => ?_)
         rotate_left 1
         · simp only [List.getElem?_toArray, List.getElem?_cons_zero, List.getElem?_cons_succ]; exact rfl
         · exact rfl
         first
         | (refine quiet_load_val _ rfl w.heap.size 0 [.int .i64 k1, .int .u8 z1, .slice a1 len1 cap1] rfl (fun w' ⟨L, hL⟩ => hL ▸ HXx.out _ (Hb6.out.trans (L.ok.low.mono Hb6.out.size))) ?_; refine hJ _ ?_; clear hJ J; try simp only [Act.put, List.setIfInBounds_toArray, List.set_cons_zero, List.set_cons_succ])
         | (refine quiet_load_val _ rfl (w.heap.size + 1) 0 [.int .i64 k2, .int .u8 z2, .slice a2 len2 cap2] rfl (fun w' ⟨L, hL⟩ => hL ▸ HXy.out _ (Hb6.out.trans (L.ok.low.mono Hb6.out.size))) ?_; refine hJ _ ?_; clear hJ J; try simp only [Act.put, List.setIfInBounds_toArray, List.set_cons_zero, List.set_cons_succ])
         | (refine quiet_load_val _ rfl (w.heap.size + 2) 0 [.int .i64 k3, .int .u8 z3, .slice a3 len3 cap3] rfl (fun w' ⟨L, hL⟩ => hL ▸ HXz.out _ (Hb6.out.trans (L.ok.low.mono Hb6.out.size))) ?_; refine hJ _ ?_; clear hJ J; try simp only [Act.put, List.setIfInBounds_toArray, List.set_cons_zero, List.set_cons_succ])
         | (refine quiet_load_val _ rfl (W5.heap.size + 2) 0 [.int .i64 6, .int .u8 0, .slice (some ⟨W5.heap.size, 0, none⟩) 2 2] rfl (fun w' ⟨L, hL⟩ => hL ▸ HV1.out.below Hbk.out L.ok.low) ?_; refine hJ _ ?_; clear hJ J; try simp only [Act.put, List.setIfInBounds_toArray, List.set_cons_zero, List.set_cons_succ])
         | (refine quiet_load_val _ rfl (W5.heap.size + 2) 3 [.int .i64 6, .int .u8 0, .slice (some ⟨W5.heap.size + 1, 0, none⟩) 2 2] rfl (fun w' ⟨L, hL⟩ => hL ▸ HV2.out.below Hbk.out L.ok.low) ?_; refine hJ _ ?_; clear hJ J; try simp only [Act.put, List.setIfInBounds_toArray, List.set_cons_zero, List.set_cons_succ])
         | (refine quiet_extract _ _ rfl _ _ rfl rfl ?_; refine hJ _ ?_; clear hJ J; try simp only [Act.put, List.setIfInBounds_toArray, List.set_cons_zero, List.set_cons_succ])
         | (go_big_quiet_op; refine hJ _ ?_; clear hJ J; try simp only [Act.put, List.setIfInBounds_toArray, List.set_cons_zero, List.set_cons_succ])))
  refine hold_done ?_
  have HF := Lib.hid (Hb6.out.trans (hK33.low.mono Hb6.out.size))
  go_wp2_with fail
  go_ret
  exact ⟨rfl, HbW.out.trans (HF.out.mono HbW.out.size)⟩
end V
end Go.Proofs.Ytkekdfelcfoilaa
