/- The document's own Eager, walked for values that are not too great. -/
import Derived.Test.YtblgjcolmaidlaaEagerCmp
import Derived.Test.YtblgjcolmaidlaaRefBits
namespace Go.Proofs.Ytblgjcolmaidlaa
namespace V
set_option maxRecDepth 100000
open Go.RowKit
theorem refBits_s {v : Vl} {ds : List Value} {w : World} (hv : Vl.at w v ds) (hb : Fit v) :
    Calls Try.prog 17 #[.agg ds.toArray] w fun e w' => e = .returned (.string (putS v)) ∧ Below w.heap.size w w' := by
  refine (refBits_any v.count v ds w (Nat.le_refl _) hv (by have := put_le v; have h : v.count ≤ 1099511627776 := hb; omega)).mono ?_
  rintro e w3 ⟨⟨t', rfl, ht'⟩, hb⟩
  exact ⟨by rw [of_nats (ht'.trans (putS_nats v).symm)], hb⟩
set_option maxHeartbeats 8000000 in
theorem refEager_any (x y : Vl) (cs ds : List Value) (w : World) (hx : Vl.at w x cs) (hy : Vl.at w y ds) (hsx : Fit x) (hsy : Fit y) :
    Calls Try.prog 15 #[.agg cs.toArray, .agg ds.toArray] w fun e w' => e = .returned (.int .i64 (eord x y)) ∧ Below w.heap.size w w' := by
  obtain ⟨W, hW⟩ : ∃ W, W = (w.alloc (.cells cs.toArray 35)).alloc (.cells ds.toArray 35) := ⟨_, rfl⟩
  have hbW : Below w.heap.size w W := by rw [hW]; exact (((Below.refl _ _).alloc (Nat.le_refl _) _).alloc (by simp) _)
  have hsW : W.heap.size = w.heap.size + 2 := by rw [hW]; simp
  have hxx : Val3 W w.heap.size 0 cs := by
    have h := World.alloc_heap_new w (.cells cs.toArray 35)
    rw [hW]
    exact Val3.below (rval3_in h (at_len hx)) (B := w.heap.size + 1) (by omega) ((Below.refl _ _).alloc (by first | (simp; done) | (simp; omega)) _)
  have hxy : Val3 W (w.heap.size + 1) 0 ds := by
    have h := World.alloc_heap_new (w.alloc (.cells cs.toArray 35)) (.cells ds.toArray 35)
    rw [World.size_alloc] at h
    rw [hW]
    exact (rval3_in h (at_len hy))
  have HXx : Hid (∀ w', Below W.heap.size W w' → Val3 w' w.heap.size 0 cs) := Lib.hid fun w' h => Val3.below hxx (by omega) h
  have HAx : Hid (∀ w', Below W.heap.size W w' → Vl.at w' x cs) := Lib.hid fun w' h => Vl.at_below (hbW.trans (h.mono hbW.size)) (Nat.le_refl _) _ _ hx
  have HXy : Hid (∀ w', Below W.heap.size W w' → Val3 w' (w.heap.size + 1) 0 ds) := Lib.hid fun w' h => Val3.below hxy (by omega) h
  have HAy : Hid (∀ w', Below W.heap.size W w' → Vl.at w' y ds) := Lib.hid fun w' h => Vl.at_below (hbW.trans (h.mono hbW.size)) (Nat.le_refl _) _ _ hy
  have HbW := Lib.hid hbW
  have HsW := Lib.hid hsW
  clear hbW hsW hxx hxy
  have Hpx : Hid (∀ w', Below W.heap.size W w' → Calls Try.prog 17 #[.agg cs.toArray] w' fun e w2 => e = .returned (.string (putS x)) ∧ Below w'.heap.size w' w2) := Lib.hid fun w' h => refBits_s (HAx.out _ h) hsx
  have Hpy : Hid (∀ w', Below W.heap.size W w' → Calls Try.prog 17 #[.agg ds.toArray] w' fun e w2 => e = .returned (.string (putS y)) ∧ Below w'.heap.size w' w2) := Lib.hid fun w' h => refBits_s (HAy.out _ h) hsy
  have HL : Hid (Op.bytesLess (putS x).toList (putS y).toList = decide (eord x y < 0)) := Lib.hid (by rw [str_less, putS_nats, putS_nats])
  have HE : Hid (((putS x).toList == (putS y).toList) = decide (eord x y = 0)) := Lib.hid (by rw [eq_list, putS_nats, putS_nats]; exact decide_eq_decide.2 elex_iff.symm)
  have hv : ETri (eord x y) := elex_tri _ _
  generalize eord x y = O at *
  generalize putS x = tx at *
  generalize putS y = ty at *
  obtain ⟨k1, z1, a1, len1, cap1, rfl⟩ := at_lit hx
  obtain ⟨k2, z2, a2, len2, cap2, rfl⟩ := at_lit hy
  clear hx hy hsx hsy
  rcases hv with rfl | rfl | rfl
  · have e1 : Op.bytesLess tx.toList ty.toList = true := HL.out
    have e2 : (tx.toList == ty.toList) = false := HE.out
    clear HL HE
    go_enter Try.func15, Try.ntmps15
    go_upto_region 1 with fail
    rw [← hW]
    clear hW
    refine wp_region_later (W0 := W) (Below.refl _ _) (by kernel_rfl) (by as_aux_lemma => kernel_rfl) ?_
    (go_big_quiet_want; refine quiet_load_refval _ rfl w.heap.size 0 [.int .i64 k1, .int .u8 z1, .slice a1 len1 cap1] rfl (fun w' hw' => by obtain ⟨L, rfl⟩ := hw'; exact HXx.out _ L.ok) ?_; go_big_quiet_on; try simp only [Act.put, List.setIfInBounds_toArray, List.set_cons_zero, List.set_cons_succ])
    go_big_quiet_step (exact Later.calls (Hpx.out _ (Later.ok _)))
    (go_big_quiet_want; refine quiet_load_refval _ rfl (w.heap.size + 1) 0 [.int .i64 k2, .int .u8 z2, .slice a2 len2 cap2] rfl (fun w' hw' => by obtain ⟨L, rfl⟩ := hw'; exact HXy.out _ L.ok) ?_; go_big_quiet_on; try simp only [Act.put, List.setIfInBounds_toArray, List.set_cons_zero, List.set_cons_succ])
    go_big_quiet_step (exact Later.calls (Hpy.out _ (Later.ok _)))
    go_big_quiet_step (exact rfl)
    go_big_quiet_step (exact rfl)
    refine wpQuiet_nil ?_
    intro w' hw'
    obtain ⟨L', rfl⟩ := hw'
    have Hb2 := Lib.hid L'.ok
    generalize L'.val = W2 at Hb2 ⊢
    clear L'
    go_step
    go_step
    go_wp2_with fail
    go_ret
    exact ⟨rfl, HbW.out.trans (Hb2.out.mono HbW.out.size)⟩
  · have e1 : Op.bytesLess tx.toList ty.toList = false := HL.out
    have e2 : (tx.toList == ty.toList) = true := HE.out
    clear HL HE
    go_enter Try.func15, Try.ntmps15
    go_upto_region 1 with fail
    rw [← hW]
    clear hW
    refine wp_region_later (W0 := W) (Below.refl _ _) (by kernel_rfl) (by as_aux_lemma => kernel_rfl) ?_
    (go_big_quiet_want; refine quiet_load_refval _ rfl w.heap.size 0 [.int .i64 k1, .int .u8 z1, .slice a1 len1 cap1] rfl (fun w' hw' => by obtain ⟨L, rfl⟩ := hw'; exact HXx.out _ L.ok) ?_; go_big_quiet_on; try simp only [Act.put, List.setIfInBounds_toArray, List.set_cons_zero, List.set_cons_succ])
    go_big_quiet_step (exact Later.calls (Hpx.out _ (Later.ok _)))
    (go_big_quiet_want; refine quiet_load_refval _ rfl (w.heap.size + 1) 0 [.int .i64 k2, .int .u8 z2, .slice a2 len2 cap2] rfl (fun w' hw' => by obtain ⟨L, rfl⟩ := hw'; exact HXy.out _ L.ok) ?_; go_big_quiet_on; try simp only [Act.put, List.setIfInBounds_toArray, List.set_cons_zero, List.set_cons_succ])
    go_big_quiet_step (exact Later.calls (Hpy.out _ (Later.ok _)))
    go_big_quiet_step (exact rfl)
    go_big_quiet_step (exact rfl)
    refine wpQuiet_nil ?_
    intro w' hw'
    obtain ⟨L', rfl⟩ := hw'
    have Hb2 := Lib.hid L'.ok
    generalize L'.val = W2 at Hb2 ⊢
    clear L'
    go_step
    go_step
    go_wp2_with fail
    go_ret
    exact ⟨rfl, HbW.out.trans (Hb2.out.mono HbW.out.size)⟩
  · have e1 : Op.bytesLess tx.toList ty.toList = false := HL.out
    have e2 : (tx.toList == ty.toList) = false := HE.out
    clear HL HE
    go_enter Try.func15, Try.ntmps15
    go_upto_region 1 with fail
    rw [← hW]
    clear hW
    refine wp_region_later (W0 := W) (Below.refl _ _) (by kernel_rfl) (by as_aux_lemma => kernel_rfl) ?_
    (go_big_quiet_want; refine quiet_load_refval _ rfl w.heap.size 0 [.int .i64 k1, .int .u8 z1, .slice a1 len1 cap1] rfl (fun w' hw' => by obtain ⟨L, rfl⟩ := hw'; exact HXx.out _ L.ok) ?_; go_big_quiet_on; try simp only [Act.put, List.setIfInBounds_toArray, List.set_cons_zero, List.set_cons_succ])
    go_big_quiet_step (exact Later.calls (Hpx.out _ (Later.ok _)))
    (go_big_quiet_want; refine quiet_load_refval _ rfl (w.heap.size + 1) 0 [.int .i64 k2, .int .u8 z2, .slice a2 len2 cap2] rfl (fun w' hw' => by obtain ⟨L, rfl⟩ := hw'; exact HXy.out _ L.ok) ?_; go_big_quiet_on; try simp only [Act.put, List.setIfInBounds_toArray, List.set_cons_zero, List.set_cons_succ])
    go_big_quiet_step (exact Later.calls (Hpy.out _ (Later.ok _)))
    go_big_quiet_step (exact rfl)
    go_big_quiet_step (exact rfl)
    refine wpQuiet_nil ?_
    intro w' hw'
    obtain ⟨L', rfl⟩ := hw'
    have Hb2 := Lib.hid L'.ok
    generalize L'.val = W2 at Hb2 ⊢
    clear L'
    go_step
    go_step
    go_wp2_with fail
    go_ret
    exact ⟨rfl, HbW.out.trans (Hb2.out.mono HbW.out.size)⟩
end V
end Go.Proofs.Ytblgjcolmaidlaa
