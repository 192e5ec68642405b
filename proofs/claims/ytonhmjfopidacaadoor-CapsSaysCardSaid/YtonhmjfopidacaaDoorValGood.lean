/- value.Good, Full, walked for every core and every value. -/
import Derived.Test.YtonhmjfopidacaaDoorValBel
namespace Go.Proofs.YtonhmjfopidacaaDoor
namespace V
set_option maxRecDepth 100000
open Go.RowKit
set_option maxHeartbeats 4000000 in
theorem good_any {c : K.Cr} {v : Vl} {cs ds : List Value} {w : World} (hc : K.Cr.at w c cs) (hv : Vl.at w v ds) :
    Calls Tryd.prog 32 #[.agg cs.toArray, .agg ds.toArray] w fun e w' => e = .returned (.bool (goodV c v)) ∧ Below w.heap.size w w' := by
  obtain ⟨W, hW⟩ : ∃ W, W = (w.alloc (.cells cs.toArray 28)).alloc (.cells ds.toArray 39) := ⟨_, rfl⟩
  have hbW : Below w.heap.size w W := by rw [hW]; exact ((Below.refl _ _).alloc (Nat.le_refl _) _).alloc (by simp) _
  have hsW : W.heap.size = w.heap.size + 2 := by rw [hW]; simp
  have hcb : K.Core7 W w.heap.size 0 cs := by
    rw [hW]
    exact core7_below (K.core7_in (World.alloc_heap_new w (.cells cs.toArray 28)) (K.at_len hc)) (by simp) (K.alloc_below _ _)
  have hvb : Val3 W (w.heap.size + 1) 0 ds := by
    have h := World.alloc_heap_new (w.alloc (.cells cs.toArray 28)) (.cells ds.toArray 39)
    rw [World.size_alloc] at h
    rw [hW]
    exact val3_in h (at_len hv)
  have hg := K.good_walk (K.Cr.at_below hbW (Nat.le_refl _) _ _ hc)
  have hbel : c.form = true → ∀ w', Below W.heap.size W w' → Calls Tryd.prog 48 #[.agg ds.toArray, .agg cs.toArray] w' fun e w' => e = .returned (.bool (bel c v)) ∧ Below W.heap.size W w' := fun hf w' h => by
    have hw' := hbW.trans (h.mono hbW.size)
    refine (bel_any _ c v cs ds w' (Nat.le_refl _) hf (Vl.at_below hw' (Nat.le_refl _) _ _ hv) (K.Cr.at_below hw' (Nat.le_refl _) _ _ hc)).mono ?_
    rintro e w3 ⟨rfl, hb⟩
    exact ⟨rfl, h.trans (hb.mono h.size)⟩
  have hgf : K.goodC c = true → c.form = true := fun h => by unfold K.goodC at h; rw [Bool.and_eq_true] at h; exact h.2
  have hR : goodV c v = (K.goodC c && bel c v) := rfl
  rw [hR]
  generalize K.goodC c = g at *
  have hvb3 : ∀ w', Below W.heap.size W w' → Val3 w' (w.heap.size + 1) 0 ds := fun w' h => hvb.below (by omega) h
  have hcb3 : ∀ w', Below W.heap.size W w' → K.Core7 w' w.heap.size 0 cs := fun w' h => core7_below hcb (by omega) h
  have Hvb := Lib.hid hvb3
  have Hcb := Lib.hid hcb3
  have HbW := Lib.hid hbW
  obtain ⟨k1, s1, n1, a1, len1, cap1, rfl⟩ := K.at_lit hc
  obtain ⟨k2, z2, a2, len2, cap2, rfl⟩ := at_lit hv
  clear hvb3 hcb3 hvb hbW hsW hR hc hv
  cases g with
  | false =>
    rw [Bool.false_and]
    clear hbel hgf
    go_enter Tryd.func32, Tryd.ntmps32
    go_upto_region 1 with fail
    rw [← hW]
    clear hW
    go_wp2_with (first
      | (refine K.wpList_load_core rfl _ rfl w.heap.size 0 _ rfl hcb ?_)
      | (go_at_call 34; refine hg.mono ?_; clear hg; rintro e W3 ⟨rfl, hb3⟩; have Hb3 := Lib.hid hb3; clear hb3 hcb)
      | fail)
    go_ret
    exact ⟨rfl, HbW.out.trans (Hb3.out.mono HbW.out.size)⟩
  | true =>
    rw [Bool.true_and]
    have hbel := hbel (hgf rfl)
    have Hbel := Lib.hid hbel
    generalize bel c v = r at *
    clear hgf hbel
    go_enter Tryd.func32, Tryd.ntmps32
    go_upto_region 1 with fail
    rw [← hW]
    clear hW
    go_wp2_with (first
      | (refine K.wpList_load_core rfl _ rfl w.heap.size 0 _ rfl hcb ?_)
      | (go_at_call 34; refine hg.mono ?_; clear hg; rintro e W3 ⟨rfl, hb3⟩; have hv3 := Hvb.out _ hb3; have hc3 := Hcb.out _ hb3; have hcall := Hbel.out _ hb3; clear hb3 hcb)
      | (refine wpList_load_val_want rfl _ rfl (w.heap.size + 1) 0 _ rfl hv3 ?_)
      | (refine K.wpList_load_node_want rfl _ rfl w.heap.size 0 _ rfl hc3 ?_)
      | (go_at_call 48; refine hcall.mono ?_; clear hcall; rintro e W4 ⟨rfl, hb4⟩; have Hb4 := Lib.hid hb4; clear hb4)
      | fail)
    go_ret
    exact ⟨rfl, HbW.out.trans (Hb4.out.mono HbW.out.size)⟩
/-- a value of the core, and no round of a star without a byte -/
def fullV (c : K.Cr) (v : Vl) : Bool := goodV c v && v.meas.2
end V
end Go.Proofs.YtonhmjfopidacaaDoor
