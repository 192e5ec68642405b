/- The law ValueSizes, walked: any core, any value of at most so many parts. -/
import Derived.Test.YtddbheoncbphhaaValFacts
import Derived.Test.YtddbheoncbphhaaValAwake
import Derived.Test.YtddbheoncbphhaaValWide
import Derived.Test.YtddbheoncbphhaaValOps
import Derived.Test.YtddbheoncbphhaaCoreBig
namespace Go.Proofs.Ytddbheoncbphhaa
namespace V
set_option maxRecDepth 100000
open Go.RowKit
theorem lensum_take_succ (l : List Vl) (j : Nat) (hj : j < l.length) : ((l.take (j + 1)).flatMap Vl.flat).length = ((l.take j).flatMap Vl.flat).length + l[j].flat.length := by
  rw [flatMap_take_succ l j hj, List.length_append]
set_option maxHeartbeats 16000000 in
theorem valueSizes_walk (x : K.Cr) (cs : List Value) (v : Vl) (ds : List Value) (w : World) (hc : K.Cr.at w x cs) (hv : Vl.at w v ds) (hsm : v.count ≤ 1048576) :
    Calls Try.prog 7 #[.agg cs.toArray, .agg ds.toArray] w fun e w' => e = .returned (.bool true) ∧ Below w.heap.size w w' := by
  obtain ⟨W, hW⟩ : ∃ W, W = (w.alloc (.cells cs.toArray 31)).alloc (.cells ds.toArray 25) := ⟨_, rfl⟩
  have hbW : Below w.heap.size w W := by rw [hW]; exact ((Below.refl _ _).alloc (Nat.le_refl _) _).alloc (by simp) _
  have hsW : W.heap.size = w.heap.size + 2 := by rw [hW]; simp
  have hcb : K.Core7 W w.heap.size 0 cs := by
    rw [hW]
    exact core7_below (K.core7_in (World.alloc_heap_new w (.cells cs.toArray 31)) (K.at_len hc)) (by simp) (K.alloc_below _ _)
  have hvb : Val3 W (w.heap.size + 1) 0 ds := by
    have h := World.alloc_heap_new (w.alloc (.cells cs.toArray 31)) (.cells ds.toArray 25)
    rw [World.size_alloc] at h
    rw [hW]
    exact val3_in h (at_len hv)
  have Hvb : Hid (∀ w', Below W.heap.size W w' → Val3 w' (w.heap.size + 1) 0 ds) := Lib.hid fun w' h => hvb.below (by omega) h
  have Hcb : Hid (∀ w', Below W.heap.size W w' → K.Core7 w' w.heap.size 0 cs) := Lib.hid fun w' h => core7_below hcb (by omega) h
  have HbW := Lib.hid hbW
  have Hbig : Hid (∀ w', Below W.heap.size W w' → Calls Try.prog 23 #[.agg cs.toArray, .int .i64 60] w' fun e w' => e = .returned (.bool (K.bigN 60 x)) ∧ Below W.heap.size W w') := Lib.hid fun w' h => by
    refine (K.big_any 60 x cs w' (by decide) (K.Cr.at_below (hbW.trans (h.mono hbW.size)) (Nat.le_refl _) _ _ hc)).mono ?_
    rintro e w3 ⟨rfl, hb⟩
    exact ⟨rfl, h.trans (hb.mono h.size)⟩
  have Hwide : Hid (∀ w', Below W.heap.size W w' → Calls Try.prog 24 #[.agg ds.toArray, .int .i64 30] w' fun e w' => e = .returned (.bool (wideN 30 v)) ∧ Below W.heap.size W w') := Lib.hid fun w' h => by
    refine (wide_any 30 v ds w' (by decide) (Vl.at_below (hbW.trans (h.mono hbW.size)) (Nat.le_refl _) _ _ hv)).mono ?_
    rintro e w3 ⟨rfl, hb⟩
    exact ⟨rfl, h.trans (hb.mono h.size)⟩
  have Hgood : Hid (∀ w', Below W.heap.size W w' → Calls Try.prog 13 #[.agg cs.toArray, .agg ds.toArray] w' fun e w' => e = .returned (.bool (goodV x v)) ∧ Below W.heap.size W w') := Lib.hid fun w' h => by
    refine (good_any (K.Cr.at_below (hbW.trans (h.mono hbW.size)) (Nat.le_refl _) _ _ hc) (Vl.at_below (hbW.trans (h.mono hbW.size)) (Nat.le_refl _) _ _ hv)).mono ?_
    rintro e w3 ⟨rfl, hb⟩
    exact ⟨rfl, h.trans (hb.mono h.size)⟩
  have Haw : Hid (∀ w', Below W.heap.size W w' → Calls Try.prog 8 #[] w' fun e w' => e = .returned (.bool true) ∧ Below W.heap.size W w') := Lib.hid fun w' h => by
    refine (awake_any w').mono ?_
    rintro e w3 ⟨rfl, hb⟩
    exact ⟨rfl, h.trans (hb.mono h.size)⟩
  have hbel : goodV x v = true → formV v.kind v.byte v.nodes.length = true := fun h => by
    unfold goodV at h
    rw [Bool.and_eq_true] at h
    exact bel_form _ x v (Nat.le_refl _) h.2
  have HV := Lib.hid hv
  have Hsm := Lib.hid hsm
  have Hbel := Lib.hid hbel
  obtain ⟨k1, s1, n1, a1, len1, cap1, rfl⟩ := K.at_lit hc
  obtain ⟨k, z, l⟩ := v
  have hv2 := hv
  rw [at_mk] at hv2
  obtain ⟨_, _, va, vcap, rfl, hmax, hvl⟩ := hv2
  have hlx : (l.length : Int) ≤ 9223372036854775807 := by unfold maxLen at hmax; omega
  have Hvl := Lib.hid hvl
  have HsW := Lib.hid hsW
  clear hc hv hvl hbel hsm hcb hvb hbW hsW hmax
  cases B1 : K.bigN 60 x with
  | true =>
    rw [B1] at Hbig
    go_enter Try.func7, Try.ntmps7
    go_upto_region 1 with fail
    rw [← hW]
    clear hW
    go_wp2_with (first
      | (go_at_call 8; refine (Haw.out _ (Below.refl _ _)).mono ?_; rintro e W1 ⟨rfl, hb1⟩; have q1 := Hcb.out _ hb1; have call1 := Hbig.out _ hb1; clear hb1)
      | (refine K.wpList_load_core rfl _ rfl w.heap.size 0 _ rfl q1 ?_)
      | (go_at_call 23; refine call1.mono ?_; clear call1; rintro e W2 ⟨rfl, hb2⟩; have Hb2 := Lib.hid hb2; clear hb2)
      | fail)
    go_ret
    exact ⟨rfl, HbW.out.trans (Hb2.out.mono HbW.out.size)⟩
  | false =>
  rw [B1] at Hbig
  cases B2 : wideN 30 (Vl.mk k z l) with
  | true =>
    rw [B2] at Hwide
    go_enter Try.func7, Try.ntmps7
    go_upto_region 1 with fail
    rw [← hW]
    clear hW
    go_wp2_with (first
      | (go_at_call 8; refine (Haw.out _ (Below.refl _ _)).mono ?_; rintro e W1 ⟨rfl, hb1⟩; have q1 := Hcb.out _ hb1; have call1 := Hbig.out _ hb1; clear hb1)
      | (refine K.wpList_load_core rfl _ rfl w.heap.size 0 _ rfl q1 ?_)
      | (go_at_call 23; refine call1.mono ?_; clear call1; rintro e W2 ⟨rfl, hb2⟩; have q2 := Hvb.out _ hb2; have call2 := Hwide.out _ hb2; clear hb2 q1)
      | (refine wpList_load_val_want rfl _ rfl (w.heap.size + 1) 0 _ rfl q2 ?_)
      | (go_at_call 24; refine call2.mono ?_; clear call2; rintro e W3 ⟨rfl, hb3⟩; have Hb3 := Lib.hid hb3; clear hb3)
      | fail)
    go_ret
    exact ⟨rfl, HbW.out.trans (Hb3.out.mono HbW.out.size)⟩
  | false =>
  rw [B2] at Hwide
  cases B3 : goodV x (Vl.mk k z l) with
  | false =>
    rw [B3] at Hgood
    go_enter Try.func7, Try.ntmps7
    go_upto_region 1 with fail
    rw [← hW]
    clear hW
    go_wp2_with (first
      | (go_at_call 8; refine (Haw.out _ (Below.refl _ _)).mono ?_; rintro e W1 ⟨rfl, hb1⟩; have q1 := Hcb.out _ hb1; have call1 := Hbig.out _ hb1; clear hb1)
      | (refine K.wpList_load_core rfl _ rfl w.heap.size 0 _ rfl q1 ?_)
      | (go_at_call 23; refine call1.mono ?_; clear call1; rintro e W2 ⟨rfl, hb2⟩; have q2 := Hvb.out _ hb2; have call2 := Hwide.out _ hb2; clear hb2 q1)
      | (refine wpList_load_val_want rfl _ rfl (w.heap.size + 1) 0 _ rfl q2 ?_)
      | (go_at_call 24; refine call2.mono ?_; clear call2; rintro e W3 ⟨rfl, hb3⟩; have q3 := Hvb.out _ hb3; have q4 := Hcb.out _ hb3; have call3 := Hgood.out _ hb3; clear hb3 q2)
      | (refine wpList_load_val_want rfl _ rfl (w.heap.size + 1) 0 _ rfl q3 ?_)
      | (refine K.wpList_load_node_want rfl _ rfl w.heap.size 0 _ rfl q4 ?_)
      | (go_at_call 13; refine call3.mono ?_; clear call3; rintro e W4 ⟨rfl, hb4⟩; have Hb4 := Lib.hid hb4; clear hb4)
      | fail)
    go_ret
    exact ⟨rfl, HbW.out.trans (Hb4.out.mono HbW.out.size)⟩
  | true =>
    rw [B3] at Hgood
    have hform := Hbel.out B3
    have hcnt := form_cntd (k := k) (z := z) (l := l) hform
    have Hform := Lib.hid hform
    have Hcnt := Lib.hid hcnt
    clear hform hcnt B1 B2 B3
    go_enter Try.func7, Try.ntmps7
    go_upto_region 1 with fail
    rw [← hW]
    clear hW
    go_wp2_with (first
      | (go_at_call 8; refine (Haw.out _ (Below.refl _ _)).mono ?_; rintro e W1 ⟨rfl, hb1⟩; have q1 := Hcb.out _ hb1; have call1 := Hbig.out _ hb1; clear hb1)
      | (refine K.wpList_load_core rfl _ rfl w.heap.size 0 _ rfl q1 ?_)
      | (go_at_call 23; refine call1.mono ?_; clear call1; rintro e W2 ⟨rfl, hb2⟩; have q2 := Hvb.out _ hb2; have call2 := Hwide.out _ hb2; clear hb2 q1)
      | (refine wpList_load_val_want rfl _ rfl (w.heap.size + 1) 0 _ rfl q2 ?_)
      | (go_at_call 24; refine call2.mono ?_; clear call2; rintro e W3 ⟨rfl, hb3⟩; have q3 := Hvb.out _ hb3; have q4 := Hcb.out _ hb3; have call3 := Hgood.out _ hb3; clear hb3 q2)
      | (refine wpList_load_val_want rfl _ rfl (w.heap.size + 1) 0 _ rfl q3 ?_)
      | (refine K.wpList_load_node_want rfl _ rfl w.heap.size 0 _ rfl q4 ?_)
      | (go_at_call 13; refine call3.mono ?_; clear call3; rintro e W4 ⟨rfl, hb4⟩; have Hb4 := Lib.hid hb4; clear hb4 q3 q4)
      | fail)
    go_loopw [5, 6, 7] (fun n q i wr => ∃ (j S Q : Nat), i = .int .i64 j ∧ n = .int .i64 S ∧ q = .int .i64 Q ∧ j ≤ l.length ∧ Hid (S = 1 + ((l.take j).map Vl.size).sum) ∧ Hid (Q = ((l.take j).flatMap Vl.flat).length) ∧ Hid (Below W.heap.size W wr)) (fun _ _ i _ => l.length - (intOf i).toNat)
    case atStart => exact ⟨0, 1, 0, rfl, rfl, rfl, Nat.zero_le _, Lib.hid (by simp), Lib.hid (by simp), Hb4⟩
    case round =>
      obtain ⟨j, S, Q, rfl, rfl, rfl, hj, hS, hQ, hB⟩ := hrel
      have hvc := Hvb.out wr hB.out
      have c2 := hvc.2 2 (by decide)
      have c0 := hvc.2 0 (by decide)
      simp only [List.getElem?_cons_zero, List.getElem?_cons_succ, Nat.zero_add] at c2 c0
      have HBw : Hid (Below w.heap.size w wr) := Lib.hid (HbW.out.trans (hB.out.mono HbW.out.size))
      by_cases hjl : j < l.length
      · have hdj : decide ((j : Int) < l.length) = true := by simp; omega
        rcases Hvl.out with hl0 | ⟨b, off, ha, hcap, hbw, hnodes⟩
        · omega
        · subst ha
          obtain ⟨es, hcell, hchild⟩ := vals_get _ b l off hnodes j hjl
          have hcj : l[j].count ≤ 1048576 := by have h1 := counts_mem (List.getElem_mem hjl); have h2 := Hsm.out; rw [count_mk] at h2; omega
          have hgz : ∀ w', Below wr.heap.size wr w' → Calls Try.prog 20 #[.agg es.toArray] w' fun e w'' => e = .returned (.int .i64 l[j].size) ∧ Below wr.heap.size wr w'' := fun w' h => by
            refine (size_any _ l[j] es w' hcj (by decide) (Vl.at_below (HBw.out.trans (h.mono HBw.out.size)) (Nat.le_refl _) _ _ hchild)).mono ?_
            rintro e w3 ⟨rfl, hb⟩
            exact ⟨rfl, h.trans (hb.mono h.size)⟩
          have hgl : ∀ w', Below wr.heap.size wr w' → Calls Try.prog 19 #[.agg es.toArray] w' fun e w'' => e = .returned (.int .i64 l[j].flat.length) ∧ Below wr.heap.size wr w'' := fun w' h => by
            refine (len_any l[j] es w' (Vl.at_below (HBw.out.trans (h.mono HBw.out.size)) (Nat.le_refl _) _ _ hchild)).mono ?_
            rintro e w3 ⟨rfl, hb⟩
            exact ⟨by rw [len_flat (by omega)], h.trans (hb.mono h.size)⟩
          have h9 : ∀ w', Below wr.heap.size wr w' → Val3 w' b (off + j * 3) es := fun w' h => hcell.below hbw (HBw.out.trans (h.mono HBw.out.size))
          have hst := sum_take_succ l Vl.size j hjl
          have hlt := lensum_take_succ l j hjl
          have hb1 : S + l[j].size ≤ 1048577 := by
            have h1 := hS.out
            have h2 := size_le (.mk k z l)
            have h3 := size_cntd (.mk k z l)
            rw [Hcnt.out] at h3
            have h4 := sum_take_le l Vl.size (j + 1)
            have h5 := Hsm.out
            omega
          have hb2 : Q + l[j].flat.length ≤ 1048577 := by
            have h1 := hQ.out
            have h2 := flatTake_le l (j + 1)
            have h5 := Hsm.out
            rw [count_mk] at h5
            omega
          have Hst := Lib.hid hst
          have Hlt := Lib.hid hlt
          have Hgz := Lib.hid hgz
          have Hgl := Lib.hid hgl
          have H9 := Lib.hid h9
          have h90 := h9 wr (Below.refl _ _)
          have callz := hgz wr (Below.refl _ _)
          have hcx : ∀ w', Below wr.heap.size wr w' → w'.cell? ⟨w.heap.size + 1, 2, none⟩ = some (.slice (some ⟨b, off, none⟩) l.length vcap) := fun w' h => by
            rw [h.cell (p := ⟨w.heap.size + 1, 2, none⟩) (by have := HsW.out; have := hB.out.size; show w.heap.size + 1 < _; omega)]; exact c2
          have Hcx := Lib.hid hcx
          obtain ⟨k2, z2, a2, len2, cap2, rfl⟩ := at_lit hchild
          have hb1' : (S : Int) + (l[j].size : Int) ≤ 9223372036854775807 := by omega
          have hb2' : (Q : Int) + (l[j].flat.length : Int) ≤ 9223372036854775807 := by omega
          generalize l[j].size = sj at *
          generalize l[j].flat.length = fj at *
          clear hcell hchild hnodes hst hlt hgz hgl h9 hcx hcj hb1 hb2 hvc
          go_wp2_with (first
            | (refine wpList_load_val rfl _ rfl b (off + j * 3) _ rfl h90 ?_)
            | (go_at_call 20; refine callz.mono ?_; clear callz h90; rintro e w5 ⟨rfl, hb5⟩; have h91 := H9.out w5 hb5; have calll := Hgl.out w5 hb5; have c3 := Hcx.out w5 hb5; clear hb5)
            | (refine wpList_load_val rfl _ rfl b (off + j * 3) _ rfl h91 ?_)
            | (go_at_call 19; refine calll.mono ?_; clear calll h91; rintro e w6 ⟨rfl, hb6⟩; have Hb6 := Lib.hid hb6; clear hb6)
            | fail)
          go_roundw
          case rel =>
            exact ⟨j + 1, S + sj, Q + fj, by go_num, by go_num, by go_num, by omega, Lib.hid (by rw [Hst.out, hS.out]; omega), Lib.hid (by rw [Hlt.out, hQ.out]), Lib.hid (hB.out.trans (Hb6.out.mono hB.out.size))⟩
          case measure => simp [intOf]; omega
      · obtain rfl : j = l.length := by omega
        have hdj : decide ((l.length : Int) < l.length) = false := by simp
        have hSv : S = (Vl.mk k z l).size := by rw [hS.out, size_cntd, Hcnt.out, List.take_length]
        have hQv : k ≠ 2 → Q = (Vl.mk k z l).flat.length := fun h => by rw [hQ.out, flat_cntd (x := .mk k z l) h, Hcnt.out, List.take_length]
        have h2v : k = 2 → (Vl.mk k z l).flat.length = 1 := fun h => by rw [flat_mk, if_pos h]; rfl
        have hbz : ∀ w', Below wr.heap.size wr w' → Calls Try.prog 20 #[.agg (#[.int .i64 k, .int .u8 z, .slice va l.length vcap] : Array Value)] w' fun e w'' => e = .returned (.int .i64 (Vl.mk k z l).size) ∧ Below wr.heap.size wr w'' := fun w' h => by
          refine (size_any _ (.mk k z l) [.int .i64 k, .int .u8 z, .slice va l.length vcap] w' Hsm.out (by decide) (Vl.at_below (HBw.out.trans (h.mono HBw.out.size)) (Nat.le_refl _) _ _ HV.out)).mono ?_
          rintro e w3 ⟨rfl, hb⟩
          exact ⟨rfl, h.trans (hb.mono h.size)⟩
        have hbl : ∀ w', Below wr.heap.size wr w' → Calls Try.prog 19 #[.agg (#[.int .i64 k, .int .u8 z, .slice va l.length vcap] : Array Value)] w' fun e w'' => e = .returned (.int .i64 (Vl.mk k z l).flat.length) ∧ Below wr.heap.size wr w'' := fun w' h => by
          refine (len_any (.mk k z l) [.int .i64 k, .int .u8 z, .slice va l.length vcap] w' (Vl.at_below (HBw.out.trans (h.mono HBw.out.size)) (Nat.le_refl _) _ _ HV.out)).mono ?_
          rintro e w3 ⟨rfl, hb⟩
          exact ⟨by rw [len_flat (by have := Hsm.out; omega)], h.trans (hb.mono h.size)⟩
        have hbt : ∀ w', Below wr.heap.size wr w' → Calls Try.prog 18 #[.agg (#[.int .i64 k, .int .u8 z, .slice va l.length vcap] : Array Value)] w' fun e w'' => (∃ t : ByteArray, e = .returned (.string t) ∧ nats t ≠ [63]) ∧ Below wr.heap.size wr w'' := fun w' h => by
          refine (text_walk (x := .mk k z l) (cs := [.int .i64 k, .int .u8 z, .slice va l.length vcap]) (Vl.at_below (HBw.out.trans (h.mono HBw.out.size)) (Nat.le_refl _) _ _ HV.out) (by have := txt_le (.mk k z l); have := Hsm.out; unfold most; omega)).mono ?_
          rintro e w3 ⟨⟨t, rfl, ht⟩, hb⟩
          exact ⟨⟨t, rfl, by rw [ht]; exact form_txt Hform.out⟩, h.trans (hb.mono h.size)⟩
        have hbv : ∀ w', Below wr.heap.size wr w' → Val3 w' (w.heap.size + 1) 0 [.int .i64 k, .int .u8 z, .slice va l.length vcap] := fun w' h => Hvb.out _ (hB.out.trans (h.mono hB.out.size))
        have h90 := hbv wr (Below.refl _ _)
        have callz := hbz wr (Below.refl _ _)
        have Hbl := Lib.hid hbl
        have Hbt := Lib.hid hbt
        have Hbv := Lib.hid hbv
        have H2v := Lib.hid h2v
        have HQv := Lib.hid hQv
        have hszb : ((Vl.mk k z l).size : Int) ≤ 9223372036854775807 := by have := size_le (.mk k z l); have := Hsm.out; omega
        rw [← hSv] at callz
        clear hbz hbl hbt hbv hSv hvc h2v hQv
        generalize (Vl.mk k z l).flat.length = fl at *
        generalize hln : l.length = ln at *
        by_cases hk2 : k = 2
        · have hfl : fl = 1 := H2v.out hk2
          subst hfl hk2
          go_wp2_with (first
            | (refine wpList_load_val rfl _ rfl (w.heap.size + 1) 0 _ rfl h90 ?_)
            | (go_at_call 20; refine callz.mono ?_; clear callz h90; rintro e w5 ⟨rfl, hb5⟩; have h91 := Hbv.out w5 hb5; have calll := Hbl.out w5 hb5; have c3 := h91.2 0 (by decide); simp only [List.getElem?_cons_zero, Nat.zero_add] at c3; clear hb5)
            | (refine wpList_load_val_want rfl _ rfl (w.heap.size + 1) 0 _ rfl h91 ?_)
            | (go_at_call 19; refine calll.mono ?_; clear calll h91; rintro e w6 ⟨rfl, hb6⟩; have h92 := Hbv.out w6 hb6; have callt := Hbt.out w6 hb6; have c4 := h92.2 0 (by decide); simp only [List.getElem?_cons_zero, Nat.zero_add] at c4; clear hb6)
            | (refine wpList_load_val_want rfl _ rfl (w.heap.size + 1) 0 _ rfl h92 ?_)
            | (go_at_call 18; refine callt.mono ?_; clear callt h92; rintro e w7 ⟨⟨t, rfl, ht⟩, hb7⟩; have ht2 : (t.toList == [63]) = false := (eq_list_lit t [63]).trans (decide_eq_false ht); have Hb7 := Lib.hid hb7; clear hb7 ht)
            | fail)
          go_ret
          exact ⟨rfl, HbW.out.trans ((hB.out.trans (Hb7.out.mono hB.out.size)).mono HbW.out.size)⟩
        · have hfl : Q = fl := HQv.out hk2
          subst hfl
          have e2 : (k == 2) = false := by simp [hk2]
          have e2' : (k != 2) = true := by simp [hk2]
          clear hk2
          go_wp2_with (first
            | (refine wpList_load_val rfl _ rfl (w.heap.size + 1) 0 _ rfl h90 ?_)
            | (go_at_call 20; refine callz.mono ?_; clear callz h90; rintro e w5 ⟨rfl, hb5⟩; have h91 := Hbv.out w5 hb5; have calll := Hbl.out w5 hb5; have c3 := h91.2 0 (by decide); simp only [List.getElem?_cons_zero, Nat.zero_add] at c3; clear hb5)
            | (refine wpList_load_val_want rfl _ rfl (w.heap.size + 1) 0 _ rfl h91 ?_)
            | (go_at_call 19; refine calll.mono ?_; clear calll h91; rintro e w6 ⟨rfl, hb6⟩; have h92 := Hbv.out w6 hb6; have callt := Hbt.out w6 hb6; have c4 := h92.2 0 (by decide); simp only [List.getElem?_cons_zero, Nat.zero_add] at c4; clear hb6)
            | (refine wpList_load_val_want rfl _ rfl (w.heap.size + 1) 0 _ rfl h92 ?_)
            | (go_at_call 18; refine callt.mono ?_; clear callt h92; rintro e w7 ⟨⟨t, rfl, ht⟩, hb7⟩; have ht2 : (t.toList == [63]) = false := (eq_list_lit t [63]).trans (decide_eq_false ht); have Hb7 := Lib.hid hb7; clear hb7 ht)
            | fail)
          go_ret
          exact ⟨rfl, HbW.out.trans ((hB.out.trans (Hb7.out.mono hB.out.size)).mono HbW.out.size)⟩
end V
end Go.Proofs.Ytddbheoncbphhaa
