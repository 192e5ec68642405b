/- The walk of law 8's CoreTexts. -/
import Derived.Test.YtlgpbgcheeaalaaGreatDoorCoreThree
namespace Go.Proofs.YtlgpbgcheeaalaaGreatDoor
open K
set_option maxRecDepth 100000
open Go.RowKit
def txC (x : Cr) : ByteArray := ⟨(toBytes (textC x)).toArray⟩
theorem textC_lt (x : Cr) : ∀ c ∈ textC x, c < 256 := fun c hc => by
  unfold textC at hc
  split at hc
  · exact txt_lt x c hc
  · simp at hc
theorem txC_nats (x : Cr) : nats (txC x) = textC x := nats_bytes (textC_lt x)
theorem text_val {x : Cr} {cs : List Value} {w : World} (hat : Cr.at w x cs) (hT : TabAt 0 Lib.deBruijn64tab w) :
    Calls Tryz.prog 12 #[.agg cs.toArray] w fun e w' => e = .returned (.string (txC x)) ∧ Below w.heap.size w w' :=
  (text_walk hat hT).mono fun _ _ h => by
    obtain ⟨⟨t, h1, h2⟩, h3⟩ := h
    exact ⟨by rw [h1, of_nats8 (t := t) (u := txC x) (by rw [h2, txC_nats])], h3⟩
theorem good_same {x y : Cr} (hx : goodC x = true) (hy : goodC y = true) : ((txC x).toList == (txC y).toList) = x.same y := by
  have fx : x.form = true := by unfold goodC at hx; rw [Bool.and_eq_true] at hx; exact hx.2
  have fy : y.form = true := by unfold goodC at hy; rw [Bool.and_eq_true] at hy; exact hy.2
  rw [Bool.eq_iff_iff, beq_iff_eq]
  constructor
  · intro h
    have h1 : nats (txC x) = nats (txC y) := by unfold nats; rw [Lib.toList_data, Lib.toList_data] at h; rw [h]
    rw [txC_nats, txC_nats] at h1
    unfold textC at h1
    rw [if_pos hx, if_pos hy] at h1
    rw [txt_inj fx fy h1]
    exact Cr.same_refl y
  · intro h
    rw [Cr.same_eq x y h]
set_option maxHeartbeats 8000000 in
theorem coreTexts_walk (x : Cr) (cs : List Value) (y : Cr) (ds : List Value) (w : World) (hx : Cr.at w x cs) (hy : Cr.at w y ds) (hT : TabAt 0 Lib.deBruijn64tab w) (hM : MaxAt w) :
    Calls Tryz.prog 5 #[.agg cs.toArray, .agg ds.toArray] w fun e w' => e = .returned (.bool true) ∧ Below w.heap.size w w' := by
  have atx := fun (w' : World) (hb : Below w.heap.size w w') => Cr.at_below hb (Nat.le_refl _) _ _ hx
  have aty := fun (w' : World) (hb : Below w.heap.size w w') => Cr.at_below hb (Nat.le_refl _) _ _ hy
  have hbx := fun (w' : World) (hb : Below w.heap.size w w') => big_any 200 x cs w' (by decide) (atx w' hb)
  have hby := fun (w' : World) (hb : Below w.heap.size w w') => big_any 200 y ds w' (by decide) (aty w' hb)
  have hgx := fun (w' : World) (hb : Below w.heap.size w w') => K.good_walk (atx w' hb)
  have hgy := fun (w' : World) (hb : Below w.heap.size w w') => K.good_walk (aty w' hb)
  have htx := fun (w' : World) (hb : Below w.heap.size w w') => text_val (atx w' hb) (tab_below hT hb (tab_pos hT))
  have hty := fun (w' : World) (hb : Below w.heap.size w w') => text_val (aty w' hb) (tab_below hT hb (tab_pos hT))
  have hsm := fun (w' : World) (hb : Below w.heap.size w w') => K.same_any x.count x y cs ds w' (Nat.le_refl _) (atx w' hb) (aty w' hb)
  obtain ⟨kx, sx, nx, ax, lenx, capx, rfl⟩ := K.at_lit hx
  obtain ⟨ky, sy, ny, ay, leny, capy, rfl⟩ := K.at_lit hy
  have heq := @good_same x y
  generalize bigN 200 x = bx at hbx
  generalize bigN 200 y = by' at hby
  generalize goodC x = gx at hgx heq
  generalize goodC y = gy at hgy heq
  generalize txC x = tx at htx heq
  generalize txC y = ty at hty heq
  generalize x.same y = sm at hsm heq
  have haw := fun (w' : World) (hb : Below w.heap.size w w') => awake8_any w' (tab_below hT hb (tab_pos hT)) (maxAt_below hM hb)
  obtain ⟨W, hW⟩ : ∃ W, W = (w.alloc (.cells #[.int .i64 kx, .int .u64 (word sx 0), .int .u64 (word sx 1), .int .u64 (word sx 2), .int .u64 (word sx 3), .int .i64 nx, .slice ax lenx capx] 30)).alloc (.cells #[.int .i64 ky, .int .u64 (word sy 0), .int .u64 (word sy 1), .int .u64 (word sy 2), .int .u64 (word sy 3), .int .i64 ny, .slice ay leny capy] 30) := ⟨_, rfl⟩
  have hal : Below w.heap.size w W := by rw [hW]; exact two_below w _ _
  have hsW : W.heap.size = w.heap.size + 2 := by rw [hW]; simp
  have hcx : CoreIn W w.heap.size #[.int .i64 kx, .int .u64 (word sx 0), .int .u64 (word sx 1), .int .u64 (word sx 2), .int .u64 (word sx 3), .int .i64 nx, .slice ax lenx capx] := by rw [hW]; exact (Below.heap_alloc _ _ _ (by simp)).trans (World.alloc_heap_new w _)
  have hcy : CoreIn W (w.heap.size + 1) #[.int .i64 ky, .int .u64 (word sy 0), .int .u64 (word sy 1), .int .u64 (word sy 2), .int .u64 (word sy 3), .int .i64 ny, .slice ay leny capy] := by
    rw [hW]
    have h := World.alloc_heap_new (w.alloc (.cells #[.int .i64 kx, .int .u64 (word sx 0), .int .u64 (word sx 1), .int .u64 (word sx 2), .int .u64 (word sx 3), .int .i64 nx, .slice ax lenx capx] 30)) (.cells #[.int .i64 ky, .int .u64 (word sy 0), .int .u64 (word sy 1), .int .u64 (word sy 2), .int .u64 (word sy 3), .int .i64 ny, .slice ay leny capy] 30)
    rw [World.size_alloc] at h; exact h
  have h7x : ∀ w' : World, Below W.heap.size W w' → Core7 w' w.heap.size 0 [.int .i64 kx, .int .u64 (word sx 0), .int .u64 (word sx 1), .int .u64 (word sx 2), .int .u64 (word sx 3), .int .i64 nx, .slice ax lenx capx] := fun w' hb => core7_in (core_later hb hcx) rfl
  have h7y : ∀ w' : World, Below W.heap.size W w' → Core7 w' (w.heap.size + 1) 0 [.int .i64 ky, .int .u64 (word sy 0), .int .u64 (word sy 1), .int .u64 (word sy 2), .int .u64 (word sy 3), .int .i64 ny, .slice ay leny capy] := fun w' hb => core7_in (core_later hb hcy) rfl
  have H7x := Lib.hid h7x
  have H7y := Lib.hid h7y
  have Hal := Lib.hid hal
  have Haw := Lib.hid haw
  have Hbx := Lib.hid hbx
  have Hby := Lib.hid hby
  have Hgx := Lib.hid hgx
  have Hgy := Lib.hid hgy
  have Htx := Lib.hid htx
  have Hty := Lib.hid hty
  have Hsm := Lib.hid hsm
  have Heq := Lib.hid heq
  have Hb0 := Lib.hid (Below.refl W.heap.size W)
  have hup : ∀ w' : World, Below W.heap.size W w' → Below w.heap.size w w' := fun w' hb => hal.trans (hb.mono hal.size)
  have Hup := Lib.hid hup
  clear atx aty hbx hby hgx hgy htx hty hsm heq haw hal hcx hcy h7x h7y hup hx hy hT hM hsW
  go_enter Tryz.func5, Tryz.ntmps5
  go_upto_region 1 with fail
  rw [← hW]
  clear hW
  go_wp2_with fail
  refine (Haw.out _ (Hup.out _ Hb0.out)).mono ?_
  rintro e w1 ⟨rfl, hb'⟩
  have Hb1 := Lib.hid (Hb0.out.trans (hb'.mono Hb0.out.size))
  clear hb'
  go_wp2_with (first | (refine wpList_load_core rfl _ rfl w.heap.size 0 _ rfl (H7x.out _ Hb1.out) ?_) | fail)
  refine (Hbx.out _ (Hup.out _ Hb1.out)).mono ?_
  rintro e w2 ⟨rfl, hb'⟩
  have Hb2 := Lib.hid (Hb1.out.trans (hb'.mono Hb1.out.size))
  clear hb'
  cases bx
  case true =>
    go_wp2_with fail
    go_ret
    exact ⟨rfl, Hup.out _ Hb2.out⟩
  go_wp2_with (first | (refine K.wpList_load_node_want rfl _ rfl (w.heap.size + 1) 0 _ rfl (H7y.out _ Hb2.out) ?_) | fail)
  refine (Hby.out _ (Hup.out _ Hb2.out)).mono ?_
  rintro e w3 ⟨rfl, hb'⟩
  have Hb3 := Lib.hid (Hb2.out.trans (hb'.mono Hb2.out.size))
  clear hb'
  cases by'
  case true =>
    go_wp2_with fail
    go_ret
    exact ⟨rfl, Hup.out _ Hb3.out⟩
  go_wp2_with (first | (refine K.wpList_load_node_want rfl _ rfl w.heap.size 0 _ rfl (H7x.out _ Hb3.out) ?_) | fail)
  refine (Hgx.out _ (Hup.out _ Hb3.out)).mono ?_
  rintro e w4 ⟨rfl, hb'⟩
  have Hb4 := Lib.hid (Hb3.out.trans (hb'.mono Hb3.out.size))
  clear hb'
  cases gx
  case false =>
    go_wp2_with fail
    go_ret
    exact ⟨rfl, Hup.out _ Hb4.out⟩
  go_wp2_with (first | (refine K.wpList_load_node_want rfl _ rfl (w.heap.size + 1) 0 _ rfl (H7y.out _ Hb4.out) ?_) | fail)
  refine (Hgy.out _ (Hup.out _ Hb4.out)).mono ?_
  rintro e w5 ⟨rfl, hb'⟩
  have Hb5 := Lib.hid (Hb4.out.trans (hb'.mono Hb4.out.size))
  clear hb'
  cases gy
  case false =>
    go_wp2_with fail
    go_ret
    exact ⟨rfl, Hup.out _ Hb5.out⟩
  have heq2 : (tx.toList == ty.toList) = sm := Heq.out (by simp) (by simp)
  obtain ⟨W5, hW5⟩ : ∃ W5, W5 = w5 := ⟨_, rfl⟩
  have h7X : ∀ w', (∃ L : Later w5, w' = L.val) → Core7 w' w.heap.size 0 [.int .i64 kx, .int .u64 (word sx 0), .int .u64 (word sx 1), .int .u64 (word sx 2), .int .u64 (word sx 3), .int .i64 nx, .slice ax lenx capx] := fun w' hw' => by
    obtain ⟨L, rfl⟩ := hw'
    exact H7x.out _ (Hb5.out.trans (L.ok.mono Hb5.out.size))
  have h7Y : ∀ w', (∃ L : Later w5, w' = L.val) → Core7 w' (w.heap.size + 1) 0 [.int .i64 ky, .int .u64 (word sy 0), .int .u64 (word sy 1), .int .u64 (word sy 2), .int .u64 (word sy 3), .int .i64 ny, .slice ay leny capy] := fun w' hw' => by
    obtain ⟨L, rfl⟩ := hw'
    exact H7y.out _ (Hb5.out.trans (L.ok.mono Hb5.out.size))
  have hup5 : ∀ L : Later w5, Below w.heap.size w L.val := fun L => Hup.out _ (Hb5.out.trans (L.ok.mono Hb5.out.size))
  have HTX := Lib.hid (fun L : Later w5 => Htx.out _ (hup5 L))
  have HTY := Lib.hid (fun L : Later w5 => Hty.out _ (hup5 L))
  have HSM := Lib.hid (fun L : Later w5 => Hsm.out _ (hup5 L))
  have hne := Later.nonempty w5
  clear hup5 hW5 Heq Htx Hty Hsm
  go_wp2_with fail
  refine wp_region_later (W0 := w5) (Below.refl _ _) (by kernel_rfl) (by as_aux_lemma => kernel_rfl) ?_
  go_big_quiet_want
  refine K.quiet_load_core _ rfl w.heap.size 0 _ rfl h7X ?_
  go_big_quiet_on
  simp only [Act.put, List.setIfInBounds_toArray, List.set_cons_zero, List.set_cons_succ]
  go_big_quiet_step (exact Later.calls (HTX.out _))
  go_big_quiet_want
  refine K.quiet_load_core _ rfl (w.heap.size + 1) 0 _ rfl h7Y ?_
  go_big_quiet_on
  simp only [Act.put, List.setIfInBounds_toArray, List.set_cons_zero, List.set_cons_succ]
  go_big_quiet_step (exact Later.calls (HTY.out _))
  go_big_quiet_step (fail)
  go_big_quiet_want
  refine K.quiet_load_core _ rfl w.heap.size 0 _ rfl h7X ?_
  go_big_quiet_on
  simp only [Act.put, List.setIfInBounds_toArray, List.set_cons_zero, List.set_cons_succ]
  go_big_quiet_want
  refine K.quiet_load_core _ rfl (w.heap.size + 1) 0 _ rfl h7Y ?_
  go_big_quiet_on
  simp only [Act.put, List.setIfInBounds_toArray, List.set_cons_zero, List.set_cons_succ]
  go_big_quiet_step (exact Later.calls (HSM.out _))
  iterate 2 (go_big_quiet_step (fail))
  refine wpQuiet_nil ?_
  intro w' hw'
  obtain ⟨L', rfl⟩ := hw'
  have HbL := Lib.hid (Hup.out _ (Hb5.out.trans (L'.ok.mono Hb5.out.size)))
  clear h7X h7Y HTX HTY HSM
  go_wp2_with fail
  go_ret
  exact ⟨rfl, HbL.out⟩
end Go.Proofs.YtlgpbgcheeaalaaGreatDoor
