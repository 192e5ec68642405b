/- The law RankSays, walked: any two values, any list of values of at most so many parts. -/
import Derived.Test.YtkekdfelcfoilaaRankLaw
import Derived.Test.YtkekdfelcfoilaaRankBest
import Derived.Test.YtkekdfelcfoilaaRankRef
import Derived.Test.YtkekdfelcfoilaaValSlim
import Derived.Deep.DeepCutAuto
namespace Go.Proofs.Ytkekdfelcfoilaa
namespace V
set_option maxRecDepth 100000
open Go.RowKit
theorem best_more {L : List Vl} (hs : ∀ x ∈ L, Small x) {j b : Nat} (hj : j < L.length) (hb : Best (L.take j) b) (hbl : b < L.length) : Best (L.take (j + 1)) (if ord L[j] L[b] < 0 then j else b) := by
  have hbj : b < j := by have := best_lt hb; rw [List.length_take] at this; omega
  have e1 : (L.take (j + 1)).take j = L.take j := by rw [List.take_take]; congr 1; omega
  have e2 : (L.take (j + 1)).drop j = [L[j]] := by
    rw [List.take_succ_eq_append_getElem hj, List.drop_append_of_le_length (by rw [List.length_take]; omega), List.drop_eq_nil_of_le (by rw [List.length_take]; omega)]; rfl
  have h := best_join (l := L.take (j + 1)) (n := j) (i := b) (j := 0) (x := L[b]) (y := L[j]) (fun x hx => hs x (List.mem_of_mem_take hx)) (by rw [e1]; exact hb) (by rw [e2]; exact best_one _)
    (by rw [List.getElem?_take, if_pos (by omega), List.getElem?_eq_getElem hbl]) (show (L.take (j + 1))[j]? = some L[j] from by rw [List.getElem?_take, if_pos (by omega), List.getElem?_eq_getElem hj])
  exact h
theorem best_first {L : List Vl} (h : 0 < L.length) : Best (L.take 1) 0 := by
  have e : L.take 1 = [L[0]] := by rw [List.take_succ_eq_append_getElem h]; rfl
  rw [e]; exact best_one _
set_option maxHeartbeats 64000000 in
theorem rankSays_walk (x : Vl) (cs : List Value) (y : Vl) (ds : List Value) (a0 : Option Addr) (cap0 : Nat) (L : List Vl) (w : World) (hx : Vl.at w x cs) (hy : Vl.at w y ds) (hL : ListAt w L (.slice a0 L.length cap0)) (hsx : x.count ≤ 1048576) (hsy : y.count ≤ 1048576) (hsm : counts L ≤ 1048576) :
    Calls Try.prog 4 #[.agg cs.toArray, .agg ds.toArray, .slice a0 L.length cap0] w fun e w' => e = .returned (.bool true) ∧ Below w.heap.size w w' := by
  have hs : ∀ x ∈ L, Small x := fun x hx => by have := counts_mem hx; show x.count ≤ 1048576; omega
  obtain ⟨n, hn⟩ : ∃ n, n = L.length := ⟨_, rfl⟩
  have hL0 := hL
  rw [← hn] at hL0 ⊢
  obtain ⟨W, hW⟩ : ∃ W, W = (w.alloc (.cells cs.toArray 25)).alloc (.cells ds.toArray 25) := ⟨_, rfl⟩
  have hbW : Below w.heap.size w W := by rw [hW]; exact (((Below.refl _ _).alloc (Nat.le_refl _) _).alloc (by simp) _)
  have hsW : W.heap.size = w.heap.size + 2 := by rw [hW]; simp
  have hxx : Val3 W w.heap.size 0 cs := by
    have h := World.alloc_heap_new w (.cells cs.toArray 25)
    rw [hW]
    exact Val3.below (val3_in h (at_len hx)) (B := w.heap.size + 1) (by omega) ((Below.refl _ _).alloc (by first | (simp; done) | (simp; omega)) _)
  have hxy : Val3 W (w.heap.size + 1) 0 ds := by
    have h := World.alloc_heap_new (w.alloc (.cells cs.toArray 25)) (.cells ds.toArray 25)
    rw [World.size_alloc] at h
    rw [hW]
    exact (val3_in h (at_len hy))
  have HXx : Hid (∀ w', Below W.heap.size W w' → Val3 w' w.heap.size 0 cs) := Lib.hid fun w' h => Val3.below hxx (by omega) h
  have HAx : Hid (∀ w', Below W.heap.size W w' → Vl.at w' x cs) := Lib.hid fun w' h => Vl.at_below (hbW.trans (h.mono hbW.size)) (Nat.le_refl _) _ _ hx
  have HXy : Hid (∀ w', Below W.heap.size W w' → Val3 w' (w.heap.size + 1) 0 ds) := Lib.hid fun w' h => Val3.below hxy (by omega) h
  have HAy : Hid (∀ w', Below W.heap.size W w' → Vl.at w' y ds) := Lib.hid fun w' h => Vl.at_below (hbW.trans (h.mono hbW.size)) (Nat.le_refl _) _ _ hy
  have HbW := Lib.hid hbW
  have HsW := Lib.hid hsW
  clear hbW hsW hxx hxy
  have Haw : Hid (∀ w', Below W.heap.size W w' → Calls Try.prog 8 #[] w' fun e w2 => e = .returned (.bool true) ∧ Below w'.heap.size w' w2) := Lib.hid fun w' h => awake13_any w'
  have Hwx : Hid (∀ w', Below W.heap.size W w' → Calls Try.prog 15 #[.agg cs.toArray, .int .i64 30] w' fun e w2 => e = .returned (.bool (wideN 30 x)) ∧ Below w'.heap.size w' w2) := Lib.hid fun w' h => wide_any 30 x cs w' (by decide) (HAx.out _ h)
  have Hwy : Hid (∀ w', Below W.heap.size W w' → Calls Try.prog 15 #[.agg ds.toArray, .int .i64 30] w' fun e w2 => e = .returned (.bool (wideN 30 y)) ∧ Below w'.heap.size w' w2) := Lib.hid fun w' h => wide_any 30 y ds w' (by decide) (HAy.out _ h)
  have Hc : Hid (∀ w', Below W.heap.size W w' → Calls Try.prog 14 #[.agg cs.toArray, .agg ds.toArray] w' fun e w2 => e = .returned (.int .i64 (ord x y)) ∧ Below w'.heap.size w' w2) := Lib.hid fun w' h => rank_cmp x y cs ds w' (HAx.out _ h) (HAy.out _ h)
  have HL : Hid (∀ w', Below W.heap.size W w' → ListAt w' L (.slice a0 n cap0)) := Lib.hid fun w' h => hL0.below (HbW.out.trans (h.mono HbW.out.size))
  have HN := Lib.hid hn
  have Hs := Lib.hid hs
  have HSxy := Lib.hid (And.intro (show Small x from hsx) (show Small y from hsy))
  obtain ⟨a', cap', he, hmax, hl⟩ := hL
  rw [← hn] at hl
  injection he with ea _ ec
  subst ea ec
  have Hl := Lib.hid hl
  obtain ⟨k1, z1, a1, len1, cap1, rfl⟩ := at_lit hx
  obtain ⟨k2, z2, a2, len2, cap2, rfl⟩ := at_lit hy
  clear hx hy hsx hsy hsm hL0 hmax hl hs hn
  cases B0 : wideN 30 x with
  | true =>
    rw [B0] at Hwx
    go_enter Try.func4, Try.ntmps4
    go_upto_region 1 with fail
    rw [← hW]
    clear hW
    go_wp2_with fail
    refine (Haw.out _ (Below.refl _ _)).mono ?_
    rintro e W1 ⟨rfl, hb1⟩
    have Hb1 := Lib.hid hb1
    clear hb1
    go_wp2_with (first
      | (refine wpList_load_val rfl _ rfl w.heap.size 0 _ rfl (HXx.out _ Hb1.out) ?_)
      | fail)
    refine (Hwx.out _ Hb1.out).mono ?_
    rintro e W2 ⟨rfl, hb2⟩
    have Hb2 := Lib.hid (Hb1.out.trans (hb2.mono Hb1.out.size))
    clear hb2
    go_wp2_with fail
    go_ret
    exact ⟨rfl, HbW.out.trans (Hb2.out.mono HbW.out.size)⟩
  | false =>
  have Hslx := Lib.hid (slim_of_wide 30 x B0)
  rw [B0] at Hwx
  cases B1 : wideN 30 y with
  | true =>
    rw [B1] at Hwy
    go_enter Try.func4, Try.ntmps4
    go_upto_region 1 with fail
    rw [← hW]
    clear hW
    go_wp2_with fail
    refine (Haw.out _ (Below.refl _ _)).mono ?_
    rintro e W1 ⟨rfl, hb1⟩
    have Hb1 := Lib.hid hb1
    clear hb1
    go_wp2_with (first
      | (refine wpList_load_val rfl _ rfl w.heap.size 0 _ rfl (HXx.out _ Hb1.out) ?_)
      | fail)
    refine (Hwx.out _ Hb1.out).mono ?_
    rintro e W2 ⟨rfl, hb2⟩
    have Hb2 := Lib.hid (Hb1.out.trans (hb2.mono Hb1.out.size))
    clear hb2
    go_wp2_with (first
      | (refine wpList_load_val_want rfl _ rfl (w.heap.size + 1) 0 _ rfl (HXy.out _ Hb2.out) ?_)
      | fail)
    refine (Hwy.out _ Hb2.out).mono ?_
    rintro e W3 ⟨rfl, hb3⟩
    have Hb3 := Lib.hid (Hb2.out.trans (hb3.mono Hb2.out.size))
    clear hb3
    go_wp2_with fail
    go_ret
    exact ⟨rfl, HbW.out.trans (Hb3.out.mono HbW.out.size)⟩
  | false =>
  have Hsly := Lib.hid (slim_of_wide 30 y B1)
  rw [B1] at Hwy
  clear B0 B1
  by_cases hn2 : 12 < n
  · have d2 : decide ((12 : Int) < n) = true := by simp; omega
    have d3 : decide ((n : Int) > 12) = true := d2
    go_enter Try.func4, Try.ntmps4
    go_upto_region 1 with fail
    rw [← hW]
    clear hW
    go_wp2_with fail
    refine (Haw.out _ (Below.refl _ _)).mono ?_
    rintro e W1 ⟨rfl, hb1⟩
    have Hb1 := Lib.hid hb1
    clear hb1
    go_wp2_with (first
      | (refine wpList_load_val rfl _ rfl w.heap.size 0 _ rfl (HXx.out _ Hb1.out) ?_)
      | fail)
    refine (Hwx.out _ Hb1.out).mono ?_
    rintro e W2 ⟨rfl, hb2⟩
    have Hb2 := Lib.hid (Hb1.out.trans (hb2.mono Hb1.out.size))
    clear hb2
    go_wp2_with (first
      | (refine wpList_load_val_want rfl _ rfl (w.heap.size + 1) 0 _ rfl (HXy.out _ Hb2.out) ?_)
      | fail)
    refine (Hwy.out _ Hb2.out).mono ?_
    rintro e W3 ⟨rfl, hb3⟩
    have Hb3 := Lib.hid (Hb2.out.trans (hb3.mono Hb2.out.size))
    clear hb3
    go_wp2_with fail
    go_ret
    exact ⟨rfl, HbW.out.trans (Hb3.out.mono HbW.out.size)⟩
  have d2 : decide ((12 : Int) < n) = false := by simp; omega
  have d3 : decide ((n : Int) > 12) = false := d2
  have HB : Hid (n ≤ 12) := Lib.hid (by omega)
  have hnI : (n : Int) ≤ 12 := by omega
  go_enter Try.func4, Try.ntmps4
  go_upto_region 1 with fail
  rw [← hW]
  clear hW
  go_wp2_with fail
  refine (Haw.out _ (Below.refl _ _)).mono ?_
  rintro e W1 ⟨rfl, hb1⟩
  have Hb1 := Lib.hid hb1
  clear hb1
  go_wp2_with (first
    | (refine wpList_load_val rfl _ rfl w.heap.size 0 _ rfl (HXx.out _ Hb1.out) ?_)
    | fail)
  refine (Hwx.out _ Hb1.out).mono ?_
  rintro e W2 ⟨rfl, hb2⟩
  have Hb2 := Lib.hid (Hb1.out.trans (hb2.mono Hb1.out.size))
  clear hb2
  go_wp2_with (first
    | (refine wpList_load_val_want rfl _ rfl (w.heap.size + 1) 0 _ rfl (HXy.out _ Hb2.out) ?_)
    | fail)
  refine (Hwy.out _ Hb2.out).mono ?_
  rintro e W3 ⟨rfl, hb3⟩
  have Hb3 := Lib.hid (Hb2.out.trans (hb3.mono Hb2.out.size))
  clear hb3
  have Hvx : Hid (∀ w', Below W.heap.size W w' → Calls Try.prog 17 #[.agg #[.int .i64 k1, .int .u8 z1, .slice a1 len1 cap1]] w' fun e w2 => ∃ rs : List Value, e = .returned (.agg rs.toArray) ∧ Vl.at w2 x rs ∧ Below w'.heap.size w' w2) := Lib.hid fun w' h => (lawVal_any 30 x _ w' Hslx.out (HAx.out _ h)).mono fun e w2 ⟨rs, e1, e2, e3⟩ => ⟨rs, e1, e2.ref, e3⟩
  have Hvy : Hid (∀ w', Below W.heap.size W w' → Calls Try.prog 17 #[.agg #[.int .i64 k2, .int .u8 z2, .slice a2 len2 cap2]] w' fun e w2 => ∃ rs : List Value, e = .returned (.agg rs.toArray) ∧ Vl.at w2 y rs ∧ Below w'.heap.size w' w2) := Lib.hid fun w' h => (lawVal_any 30 y _ w' Hsly.out (HAy.out _ h)).mono fun e w2 ⟨rs, e1, e2, e3⟩ => ⟨rs, e1, e2.ref, e3⟩
  go_wp2_with fail
  clear hn2
  go_loopw [7, 8] (fun bv i wr => ∃ (j : Nat) (bi : Int), i = .int .i64 j ∧ bv = .int .i64 bi ∧ j ≤ n ∧ Hid (j = 0 ∧ bi = -1 ∨ 0 < j ∧ ∃ b : Nat, bi = b ∧ Best (L.take j) b ∧ ∃ z, L[b]? = some z ∧ slimV 20 z = true) ∧ Hid (Below W3.heap.size W3 wr)) (fun _ i _ => n - (intOf i).toNat)
  case atStart => exact ⟨0, -1, rfl, rfl, Nat.zero_le _, Lib.hid (.inl ⟨rfl, rfl⟩), Lib.hid (Below.refl _ _)⟩
  case round =>
    obtain ⟨j, bi, rfl, rfl, hj, hbest, hB⟩ := hrel
    have HBr := Lib.hid (bt3 Hb3.out hB.out)
    by_cases hjn : j < n
    · have hdj : decide ((j : Int) < n) = true := by simp; omega
      have hjL : j < L.length := by have := HN.out; omega
      obtain ⟨b0, off0, e0, hcap0, hbw0, hv0⟩ := Hl.out.resolve_left (by omega)
      subst e0
      have hcapI : (n : Int) ≤ cap0 := by omega
      obtain ⟨d1, hc1, hat1⟩ := vals_get _ b0 L off0 hv0 j hjL
      have HW1 := Lib.hid (fun w' (h : Below wr.heap.size wr w') => Val3.below hc1 hbw0 (HbW.out.trans ((bt3 HBr.out h).mono HbW.out.size)))
      have HT1 := Lib.hid (fun w' (h : Below wr.heap.size wr w') => at3 hat1 (HbW.out.trans ((bt3 HBr.out h).mono HbW.out.size)))
      have hcw := wide_any 20 L[j] d1 wr (by decide) (HT1.out _ (Below.refl _ _))
      have h9 := HW1.out _ (Below.refl _ _)
      cases hwj : wideN 20 L[j] with
      | true =>
        rw [hwj] at hcw
        obtain ⟨k3, z3, a3, len3, cap3, rfl⟩ := at_lit hat1
        clear hc1 hat1 hv0 hbw0 hcap0 hbest hwj
        go_wp2_with (first
          | (refine wpList_load_val rfl _ rfl b0 (off0 + j * 3) _ rfl h9 ?_)
          | fail)
        refine hcw.mono ?_
        rintro e w5 ⟨rfl, hb5⟩
        have Hb5 := Lib.hid (bt3 HBr.out hb5)
        clear hb5 hcw
        go_wp2_with fail
        go_ret
        exact ⟨rfl, HbW.out.trans (Hb5.out.mono HbW.out.size)⟩
      | false =>
        rw [hwj] at hcw
        have Hsl1 := Lib.hid (slim_of_wide 20 L[j] hwj)
        have Hmj := Lib.hid (Hs.out L[j] (List.getElem_mem hjL))
        rcases hbest.out with ⟨hj0, rfl⟩ | ⟨hj0, bb, rfl, hbb, zb, hzb, hslb⟩
        · obtain ⟨k3, z3, a3, len3, cap3, rfl⟩ := at_lit hat1
          have HZ : Hid (∃ z, L[j]? = some z ∧ slimV 20 z = true) := Lib.hid ⟨_, List.getElem?_eq_getElem hjL, Hsl1.out⟩
          have HF : Hid (Best (L.take (j + 1)) j) := Lib.hid (by rw [hj0]; exact best_first (by omega))
          clear hc1 hat1 hv0 hbw0 hcap0 hbest hwj hj0
          go_wp2_with (first
            | (refine wpList_load_val rfl _ rfl b0 (off0 + j * 3) _ rfl h9 ?_)
            | fail)
          refine hcw.mono ?_
          rintro e w5 ⟨rfl, hb5⟩
          have Hb5 := Lib.hid (hB.out.trans (hb5.mono hB.out.size))
          clear hb5 hcw h9
          go_upto_region 11 with fail
          refine wp_region_later (W0 := w5) (Below.refl _ _) (by kernel_rfl) (by as_aux_lemma => kernel_rfl) ?_
          go_big_quiet_step (exact rfl)
          go_big_quiet_step (exact rfl)
          go_big_quiet_step (exact rfl)
          go_big_quiet_skip
          go_big_quiet_skip
          go_big_quiet_skip
          go_big_quiet_skip
          go_big_quiet_skip
          go_big_quiet_skip
          go_big_quiet_skip
          go_big_quiet_skip
          go_big_quiet_skip
          go_big_quiet_skip
          go_big_quiet_skip
          go_big_quiet_skip
          go_big_quiet_step (exact rfl)
          refine wpQuiet_nil ?_
          intro w' hw'
          obtain ⟨L', rfl⟩ := hw'
          go_step
          go_step
          go_wp2_with fail
          go_roundw
          case rel => exact ⟨j + 1, j, by go_num, rfl, by omega, Lib.hid (.inr ⟨by omega, j, rfl, HF.out, HZ.out⟩), Lib.hid (bt3 Hb5.out L'.ok)⟩
          case measure => simp [intOf]; omega
        · have hbj : bb < j := by have h1 := best_lt hbb; rw [List.length_take] at h1; omega
          have hbL : bb < L.length := by omega
          have hbn : bb < n := by omega
          obtain ⟨d2x, hc2, hat2⟩ := vals_get _ b0 L off0 hv0 bb hbL
          have HW2 := Lib.hid (fun w' (h : Below wr.heap.size wr w') => Val3.below hc2 hbw0 (HbW.out.trans ((bt3 HBr.out h).mono HbW.out.size)))
          have HT2 := Lib.hid (fun w' (h : Below wr.heap.size wr w') => at3 hat2 (HbW.out.trans ((bt3 HBr.out h).mono HbW.out.size)))
          have Hmb := Lib.hid (Hs.out L[bb] (List.getElem_mem hbL))
          have HF := Lib.hid (best_more Hs.out hjL hbb hbL)
          have hzz : zb = L[bb] := by rw [List.getElem?_eq_getElem hbL] at hzb; exact (Option.some.inj hzb).symm
          subst hzz
          have HZj : Hid (∃ z, L[j]? = some z ∧ slimV 20 z = true) := Lib.hid ⟨_, List.getElem?_eq_getElem hjL, Hsl1.out⟩
          have HZb : Hid (∃ z, L[bb]? = some z ∧ slimV 20 z = true) := Lib.hid ⟨_, hzb, hslb⟩
          have Hv1 : Hid (∀ w', Below wr.heap.size wr w' → Calls Try.prog 17 #[.agg d1.toArray] w' fun e w2 => ∃ rs : List Value, e = .returned (.agg rs.toArray) ∧ Vl.at w2 L[j] rs ∧ Below w'.heap.size w' w2) := Lib.hid fun w' h => (lawVal_any 20 _ _ w' Hsl1.out (HT1.out _ h)).mono fun e w2 ⟨rs, e1, e2, e3⟩ => ⟨rs, e1, e2.ref, e3⟩
          have Hv2 : Hid (∀ w', Below wr.heap.size wr w' → Calls Try.prog 17 #[.agg d2x.toArray] w' fun e w2 => ∃ rs : List Value, e = .returned (.agg rs.toArray) ∧ Vl.at w2 L[bb] rs ∧ Below w'.heap.size w' w2) := Lib.hid fun w' h => (lawVal_any 20 _ _ w' hslb (HT2.out _ h)).mono fun e w2 ⟨rs, e1, e2, e3⟩ => ⟨rs, e1, e2.ref, e3⟩
          have HR : Hid (∀ (rs1 rs2 : List Value) (w' : World), Vl.at w' L[j] rs1 → Vl.at w' L[bb] rs2 → Calls Try.prog 16 #[.agg rs1.toArray, .agg rs2.toArray] w' fun e w2 => e = .returned (.int .i64 (ord L[j] L[bb])) ∧ Below w'.heap.size w' w2) := Lib.hid fun rs1 rs2 w' h1 h2 => refRank_any _ _ _ _ w' Hmj.out Hmb.out h1 h2
          have dbb : decide ((bb : Int) < 0) = false := by simp
          have dbn : decide ((bb : Int) < n) = true := by simp; omega
          generalize ord L[j] L[bb] = o2 at HR HF
          generalize L[j] = pj at *
          generalize L[bb] = pb at *
          have hfirst := at_lit hat1
          obtain ⟨k3, z3, a3, len3, cap3, rfl⟩ := hfirst
          clear hc1 hat1 hv0 hbw0 hcap0 hbest hwj hjL hbb hbL hc2 hat2 hzb hslb hbj
          go_wp2_with (first
            | (refine wpList_load_val rfl _ rfl b0 (off0 + j * 3) _ rfl h9 ?_)
            | fail)
          refine hcw.mono ?_
          rintro e w5 ⟨rfl, hb5⟩
          have H5 := Lib.hid hb5
          have Hb5 := Lib.hid (hB.out.trans (hb5.mono hB.out.size))
          clear hb5 hcw h9
          go_upto_region 11 with fail
          obtain ⟨wd, hwd⟩ : ∃ wd, wd = w5.drew := ⟨_, rfl⟩
          have hBd : Below w5.heap.size w5 wd := by rw [hwd]; exact (Below.refl _ _).drew
          have hKd : KeptR w5.heap.size w5 wd := KeptR.of_below hBd
          have hNE : Nonempty (HeldW (KeptR w5.heap.size w5)) := ⟨⟨wd, hKd⟩⟩
          refine wp_region_hold (KeptR w5.heap.size w5) (.plain 0 (.plain 1 (.plain 2 (.plain 3 (.plain 4 (.plain 5 (.plain 6 (.plain 8 (.plain 9 (.plain 10 (.plain 11 (.sole 7 (.sole 12 (.sole 13 (.plain 14 (.plain 15 .done)))))))))))))))) (by rw [← hwd]; exact hKd) (by kernel_rfl) (by kernel_rfl) (fun c a d v w h => by cases d <;> exact h) ?_
          rw [← hwd]
          clear hwd
          repeat (first
              | (refine' hold_skip ?_ ?_ ?_
                 rotate_left 1
                 · simp only [List.getElem?_toArray, List.getElem?_cons_zero, List.getElem?_cons_succ]; exact rfl
                 · exact rfl
                 simp only [Act.put, List.setIfInBounds_toArray, List.set_cons_zero, List.set_cons_succ])
              | (refine' hold_want ?_ ?_ (fun J hJ => ?_)
                 rotate_left 1
                 · simp only [List.getElem?_toArray, List.getElem?_cons_zero, List.getElem?_cons_succ]; exact rfl
                 · exact rfl
                 first
                 | (refine quiet_load_val _ rfl b0 (off0 + j * 3) [.int .i64 k3, .int .u8 z3, .slice a3 len3 cap3] rfl (fun w' ⟨L1, hL1⟩ => hL1 ▸ HW1.out _ (bt3 H5.out L1.ok.low)) ?_; refine hJ _ ?_; clear hJ J; try simp only [Act.put, List.setIfInBounds_toArray, List.set_cons_zero, List.set_cons_succ])
                 | (refine quiet_load_val _ rfl b0 (off0 + bb * 3) d2x rfl (fun w' ⟨L1, hL1⟩ => hL1 ▸ HW2.out _ (bt3 H5.out L1.ok.low)) ?_; refine hJ _ ?_; clear hJ J; try simp only [Act.put, List.setIfInBounds_toArray, List.set_cons_zero, List.set_cons_succ])
                 | (refine quiet_extract _ _ rfl _ _ rfl rfl ?_; refine hJ _ ?_; clear hJ J; try simp only [Act.put, List.setIfInBounds_toArray, List.set_cons_zero, List.set_cons_succ])
                 | (go_big_quiet_op; refine hJ _ ?_; clear hJ J; try simp only [Act.put, List.setIfInBounds_toArray, List.set_cons_zero, List.set_cons_succ])))
          refine' hold_sole ?_ ?_ (fun J hJ => ?_)
          rotate_left 1
          · simp only [List.getElem?_toArray, List.getElem?_cons_zero, List.getElem?_cons_succ]; exact rfl
          · exact rfl
          go_simp
          refine (Hv1.out _ (bt3 H5.out hKd.low)).mono ?_
          rintro e w21 ⟨rs21, rfl, hm21, hb21⟩
          have hK21 : KeptR w5.heap.size w5 w21 := hKd.trans (KeptR.of_below hb21)
          refine hJ _ _ hK21 ?_
          clear hJ J hb21
          try simp only [Act.put, List.setIfInBounds_toArray, List.set_cons_zero, List.set_cons_succ]
          refine' hold_sole ?_ ?_ (fun J hJ => ?_)
          rotate_left 1
          · simp only [List.getElem?_toArray, List.getElem?_cons_zero, List.getElem?_cons_succ]; exact rfl
          · exact rfl
          go_simp
          refine (Hv2.out _ (bt3 H5.out hK21.low)).mono ?_
          rintro e w22 ⟨rs22, rfl, hm22, hb22⟩
          have hK22 : KeptR w5.heap.size w5 w22 := hK21.trans (KeptR.of_below hb22)
          have hma_22 := at3 hm21 hb22
          refine hJ _ _ hK22 ?_
          clear hJ J hb22
          try simp only [Act.put, List.setIfInBounds_toArray, List.set_cons_zero, List.set_cons_succ]
          refine' hold_sole ?_ ?_ (fun J hJ => ?_)
          rotate_left 1
          · simp only [List.getElem?_toArray, List.getElem?_cons_zero, List.getElem?_cons_succ]; exact rfl
          · exact rfl
          go_simp
          refine (HR.out _ _ _ hma_22 hm22).mono ?_
          rintro e w23 ⟨rfl, hb23⟩
          have hK23 : KeptR w5.heap.size w5 w23 := hK22.trans (KeptR.of_below hb23)
          have hma_23 := at3 hma_22 hb23
          have hmb_23 := at3 hm22 hb23
          refine hJ _ _ hK23 ?_
          clear hJ J hb23
          try simp only [Act.put, List.setIfInBounds_toArray, List.set_cons_zero, List.set_cons_succ]
          repeat (first
              | (refine' hold_skip ?_ ?_ ?_
                 rotate_left 1
                 · simp only [List.getElem?_toArray, List.getElem?_cons_zero, List.getElem?_cons_succ]; exact rfl
                 · exact rfl
                 simp only [Act.put, List.setIfInBounds_toArray, List.set_cons_zero, List.set_cons_succ])
              | (refine' hold_want ?_ ?_ (fun J hJ => ?_)
                 rotate_left 1
                 · simp only [List.getElem?_toArray, List.getElem?_cons_zero, List.getElem?_cons_succ]; exact rfl
                 · exact rfl
                 first
                 | (refine quiet_load_val _ rfl b0 (off0 + j * 3) [.int .i64 k3, .int .u8 z3, .slice a3 len3 cap3] rfl (fun w' ⟨L1, hL1⟩ => hL1 ▸ HW1.out _ (bt3 H5.out L1.ok.low)) ?_; refine hJ _ ?_; clear hJ J; try simp only [Act.put, List.setIfInBounds_toArray, List.set_cons_zero, List.set_cons_succ])
                 | (refine quiet_load_val _ rfl b0 (off0 + bb * 3) d2x rfl (fun w' ⟨L1, hL1⟩ => hL1 ▸ HW2.out _ (bt3 H5.out L1.ok.low)) ?_; refine hJ _ ?_; clear hJ J; try simp only [Act.put, List.setIfInBounds_toArray, List.set_cons_zero, List.set_cons_succ])
                 | (refine quiet_extract _ _ rfl _ _ rfl rfl ?_; refine hJ _ ?_; clear hJ J; try simp only [Act.put, List.setIfInBounds_toArray, List.set_cons_zero, List.set_cons_succ])
                 | (go_big_quiet_op; refine hJ _ ?_; clear hJ J; try simp only [Act.put, List.setIfInBounds_toArray, List.set_cons_zero, List.set_cons_succ])))
          refine hold_done ?_
          have HE := Lib.hid (bt3 Hb5.out hK23.low)
          by_cases ho : o2 < 0
          · have hdo : decide (o2 < 0) = true := by simp; omega
            have Ho := Lib.hid ho
            rw [hdo]
            clear ho hdo
            go_wp2_with fail
            go_roundw
            case rel => exact ⟨j + 1, j, by go_num, rfl, by omega, Lib.hid (.inr ⟨by omega, j, rfl, by have h := HF.out; rw [if_pos Ho.out] at h; exact h, HZj.out⟩), HE⟩
            case measure => simp [intOf]; omega
          · have hdo : decide (o2 < 0) = false := by simp; omega
            have Ho := Lib.hid ho
            rw [hdo]
            clear ho hdo
            go_wp2_with fail
            go_roundw
            case rel => exact ⟨j + 1, bb, by go_num, rfl, by omega, Lib.hid (.inr ⟨by omega, bb, rfl, by have h := HF.out; rw [if_neg Ho.out] at h; exact h, HZb.out⟩), HE⟩
            case measure => simp [intOf]; omega
    · have ejn : j = n := by omega
      have hdj : decide ((j : Int) < n) = false := by rw [ejn]; simp
      have hex : (n = 0 ∧ bi = -1) ∨ (0 < n ∧ ∃ b : Nat, bi = b ∧ Best L b) := by
        rcases hbest.out with ⟨h0, h1⟩ | ⟨h0, bb, h1, h2, _⟩
        · exact .inl ⟨by omega, h1⟩
        · refine .inr ⟨by omega, bb, h1, ?_⟩
          rw [List.take_of_length_le (by have := HN.out; omega)] at h2
          exact h2
      have HR : Hid (∀ (rs1 rs2 : List Value) (w' : World), Vl.at w' x rs1 → Vl.at w' y rs2 → Calls Try.prog 16 #[.agg rs1.toArray, .agg rs2.toArray] w' fun e w2 => e = .returned (.int .i64 (ord x y)) ∧ Below w'.heap.size w' w2) := Lib.hid fun rs1 rs2 w' h1 h2 => refRank_any _ _ _ _ w' HSxy.out.1 HSxy.out.2 h1 h2
      generalize ord x y = O at *
      clear hbest hB
      rcases hex with ⟨hn0, rfl⟩ | ⟨hn0, bb, rfl, hbb⟩
      · have hcall := best_empty wr a0 cap0
        rw [hn0] at *
        go_wp2_with fail
        refine hcall.mono ?_
        rintro e w8 ⟨rfl, hb8⟩
        have Hb8 := Lib.hid (bt3 HBr.out hb8)
        clear hb8 hcall
        go_upto_region 14 with fail
        obtain ⟨wd, hwd⟩ : ∃ wd, wd = w8.drew := ⟨_, rfl⟩
        have hBd : Below w8.heap.size w8 wd := by rw [hwd]; exact (Below.refl _ _).drew
        have hKd : KeptR w8.heap.size w8 wd := KeptR.of_below hBd
        have hNE : Nonempty (HeldW (KeptR w8.heap.size w8)) := ⟨⟨wd, hKd⟩⟩
        refine wp_region_hold (KeptR w8.heap.size w8) (.plain 0 (.plain 1 (.plain 3 (.plain 5 (.sole 2 (.sole 4 (.sole 6 (.sole 7 (.plain 8 (.plain 9 (.plain 10 (.plain 11 (.plain 12 (.plain 13 (.plain 14 (.plain 15 (.plain 16 (.plain 17 (.plain 18 (.plain 19 (.plain 20 (.plain 21 (.plain 22 (.plain 23 (.plain 24 .done))))))))))))))))))))))))) (by rw [← hwd]; exact hKd) (by kernel_rfl) (by kernel_rfl) (fun c a d v w h => by cases d <;> exact h) ?_
        rw [← hwd]
        clear hwd
        repeat (first
            | (refine' hold_skip ?_ ?_ ?_
               rotate_left 1
               · simp only [List.getElem?_toArray, List.getElem?_cons_zero, List.getElem?_cons_succ]; exact rfl
               · exact rfl
               simp only [Act.put, List.setIfInBounds_toArray, List.set_cons_zero, List.set_cons_succ])
            | (refine' hold_want ?_ ?_ (fun J hJ => ?_)
               rotate_left 1
               · simp only [List.getElem?_toArray, List.getElem?_cons_zero, List.getElem?_cons_succ]; exact rfl
               · exact rfl
               first
               | (refine quiet_load_val _ rfl w.heap.size 0 [.int .i64 k1, .int .u8 z1, .slice a1 len1 cap1] rfl (fun w' ⟨L1, hL1⟩ => hL1 ▸ HXx.out _ (bt3 Hb8.out L1.ok.low)) ?_; refine hJ _ ?_; clear hJ J; try simp only [Act.put, List.setIfInBounds_toArray, List.set_cons_zero, List.set_cons_succ])
               | (refine quiet_load_val _ rfl (w.heap.size + 1) 0 [.int .i64 k2, .int .u8 z2, .slice a2 len2 cap2] rfl (fun w' ⟨L1, hL1⟩ => hL1 ▸ HXy.out _ (bt3 Hb8.out L1.ok.low)) ?_; refine hJ _ ?_; clear hJ J; try simp only [Act.put, List.setIfInBounds_toArray, List.set_cons_zero, List.set_cons_succ])
               | (refine quiet_extract _ _ rfl _ _ rfl rfl ?_; refine hJ _ ?_; clear hJ J; try simp only [Act.put, List.setIfInBounds_toArray, List.set_cons_zero, List.set_cons_succ])
               | (go_big_quiet_op; refine hJ _ ?_; clear hJ J; try simp only [Act.put, List.setIfInBounds_toArray, List.set_cons_zero, List.set_cons_succ])))
        refine' hold_sole ?_ ?_ (fun J hJ => ?_)
        rotate_left 1
        · simp only [List.getElem?_toArray, List.getElem?_cons_zero, List.getElem?_cons_succ]; exact rfl
        · exact rfl
        go_simp
        refine (Hc.out _ (bt3 Hb8.out hKd.low)).mono ?_
        rintro e w24 ⟨rfl, hb24⟩
        have hK24 : KeptR w8.heap.size w8 w24 := hKd.trans (KeptR.of_below hb24)
        refine hJ _ _ hK24 ?_
        clear hJ J hb24
        try simp only [Act.put, List.setIfInBounds_toArray, List.set_cons_zero, List.set_cons_succ]
        refine' hold_sole ?_ ?_ (fun J hJ => ?_)
        rotate_left 1
        · simp only [List.getElem?_toArray, List.getElem?_cons_zero, List.getElem?_cons_succ]; exact rfl
        · exact rfl
        go_simp
        refine (Hvx.out _ (bt3 Hb8.out hK24.low)).mono ?_
        rintro e w25 ⟨rs25, rfl, hm25, hb25⟩
        have hK25 : KeptR w8.heap.size w8 w25 := hK24.trans (KeptR.of_below hb25)
        refine hJ _ _ hK25 ?_
        clear hJ J hb25
        try simp only [Act.put, List.setIfInBounds_toArray, List.set_cons_zero, List.set_cons_succ]
        refine' hold_sole ?_ ?_ (fun J hJ => ?_)
        rotate_left 1
        · simp only [List.getElem?_toArray, List.getElem?_cons_zero, List.getElem?_cons_succ]; exact rfl
        · exact rfl
        go_simp
        refine (Hvy.out _ (bt3 Hb8.out hK25.low)).mono ?_
        rintro e w26 ⟨rs26, rfl, hm26, hb26⟩
        have hK26 : KeptR w8.heap.size w8 w26 := hK25.trans (KeptR.of_below hb26)
        have hma_26 := at3 hm25 hb26
        refine hJ _ _ hK26 ?_
        clear hJ J hb26
        try simp only [Act.put, List.setIfInBounds_toArray, List.set_cons_zero, List.set_cons_succ]
        refine' hold_sole ?_ ?_ (fun J hJ => ?_)
        rotate_left 1
        · simp only [List.getElem?_toArray, List.getElem?_cons_zero, List.getElem?_cons_succ]; exact rfl
        · exact rfl
        go_simp
        refine (HR.out _ _ _ hma_26 hm26).mono ?_
        rintro e w27 ⟨rfl, hb27⟩
        have hK27 : KeptR w8.heap.size w8 w27 := hK26.trans (KeptR.of_below hb27)
        have hma_27 := at3 hma_26 hb27
        have hmb_27 := at3 hm26 hb27
        refine hJ _ _ hK27 ?_
        clear hJ J hb27
        try simp only [Act.put, List.setIfInBounds_toArray, List.set_cons_zero, List.set_cons_succ]
        repeat (first
            | (refine' hold_skip ?_ ?_ ?_
               rotate_left 1
               · simp only [List.getElem?_toArray, List.getElem?_cons_zero, List.getElem?_cons_succ]; exact rfl
               · exact rfl
               simp only [Act.put, List.setIfInBounds_toArray, List.set_cons_zero, List.set_cons_succ])
            | (refine' hold_want ?_ ?_ (fun J hJ => ?_)
               rotate_left 1
               · simp only [List.getElem?_toArray, List.getElem?_cons_zero, List.getElem?_cons_succ]; exact rfl
               · exact rfl
               first
               | (refine quiet_load_val _ rfl w.heap.size 0 [.int .i64 k1, .int .u8 z1, .slice a1 len1 cap1] rfl (fun w' ⟨L1, hL1⟩ => hL1 ▸ HXx.out _ (bt3 Hb8.out L1.ok.low)) ?_; refine hJ _ ?_; clear hJ J; try simp only [Act.put, List.setIfInBounds_toArray, List.set_cons_zero, List.set_cons_succ])
               | (refine quiet_load_val _ rfl (w.heap.size + 1) 0 [.int .i64 k2, .int .u8 z2, .slice a2 len2 cap2] rfl (fun w' ⟨L1, hL1⟩ => hL1 ▸ HXy.out _ (bt3 Hb8.out L1.ok.low)) ?_; refine hJ _ ?_; clear hJ J; try simp only [Act.put, List.setIfInBounds_toArray, List.set_cons_zero, List.set_cons_succ])
               | (refine quiet_extract _ _ rfl _ _ rfl rfl ?_; refine hJ _ ?_; clear hJ J; try simp only [Act.put, List.setIfInBounds_toArray, List.set_cons_zero, List.set_cons_succ])
               | (go_big_quiet_op; refine hJ _ ?_; clear hJ J; try simp only [Act.put, List.setIfInBounds_toArray, List.set_cons_zero, List.set_cons_succ])))
        refine hold_done ?_
        have HE := Lib.hid (bt3 Hb8.out hK27.low)
        go_wp2_with fail
        go_ret
        exact ⟨rfl, HbW.out.trans (HE.out.mono HbW.out.size)⟩
      · have hcall := best_some (by have := HN.out; omega) Hs.out (HL.out _ HBr.out)
        have HBB := Lib.hid hbb
        have dge : decide ((0 : Int) ≤ bb) = true := by simp
        have dge2 : decide ((bb : Int) ≥ 0) = true := dge
        clear hbb
        go_wp2_with fail
        refine hcall.mono ?_
        rintro e w8 ⟨i, rfl, hBi, hb8⟩
        have hib : i = bb := best_unique Hs.out hBi HBB.out
        subst hib
        have Hb8 := Lib.hid (bt3 HBr.out hb8)
        clear hb8 hcall hBi
        go_upto_region 14 with fail
        obtain ⟨wd, hwd⟩ : ∃ wd, wd = w8.drew := ⟨_, rfl⟩
        have hBd : Below w8.heap.size w8 wd := by rw [hwd]; exact (Below.refl _ _).drew
        have hKd : KeptR w8.heap.size w8 wd := KeptR.of_below hBd
        have hNE : Nonempty (HeldW (KeptR w8.heap.size w8)) := ⟨⟨wd, hKd⟩⟩
        refine wp_region_hold (KeptR w8.heap.size w8) (.plain 0 (.plain 1 (.plain 3 (.plain 5 (.sole 2 (.sole 4 (.sole 6 (.sole 7 (.plain 8 (.plain 9 (.plain 10 (.plain 11 (.plain 12 (.plain 13 (.plain 14 (.plain 15 (.plain 16 (.plain 17 (.plain 18 (.plain 19 (.plain 20 (.plain 21 (.plain 22 (.plain 23 (.plain 24 .done))))))))))))))))))))))))) (by rw [← hwd]; exact hKd) (by kernel_rfl) (by kernel_rfl) (fun c a d v w h => by cases d <;> exact h) ?_
        rw [← hwd]
        clear hwd
        repeat (first
            | (refine' hold_skip ?_ ?_ ?_
               rotate_left 1
               · simp only [List.getElem?_toArray, List.getElem?_cons_zero, List.getElem?_cons_succ]; exact rfl
               · exact rfl
               simp only [Act.put, List.setIfInBounds_toArray, List.set_cons_zero, List.set_cons_succ])
            | (refine' hold_want ?_ ?_ (fun J hJ => ?_)
               rotate_left 1
               · simp only [List.getElem?_toArray, List.getElem?_cons_zero, List.getElem?_cons_succ]; exact rfl
               · exact rfl
               first
               | (refine quiet_load_val _ rfl w.heap.size 0 [.int .i64 k1, .int .u8 z1, .slice a1 len1 cap1] rfl (fun w' ⟨L1, hL1⟩ => hL1 ▸ HXx.out _ (bt3 Hb8.out L1.ok.low)) ?_; refine hJ _ ?_; clear hJ J; try simp only [Act.put, List.setIfInBounds_toArray, List.set_cons_zero, List.set_cons_succ])
               | (refine quiet_load_val _ rfl (w.heap.size + 1) 0 [.int .i64 k2, .int .u8 z2, .slice a2 len2 cap2] rfl (fun w' ⟨L1, hL1⟩ => hL1 ▸ HXy.out _ (bt3 Hb8.out L1.ok.low)) ?_; refine hJ _ ?_; clear hJ J; try simp only [Act.put, List.setIfInBounds_toArray, List.set_cons_zero, List.set_cons_succ])
               | (refine quiet_extract _ _ rfl _ _ rfl rfl ?_; refine hJ _ ?_; clear hJ J; try simp only [Act.put, List.setIfInBounds_toArray, List.set_cons_zero, List.set_cons_succ])
               | (go_big_quiet_op; refine hJ _ ?_; clear hJ J; try simp only [Act.put, List.setIfInBounds_toArray, List.set_cons_zero, List.set_cons_succ])))
        refine' hold_sole ?_ ?_ (fun J hJ => ?_)
        rotate_left 1
        · simp only [List.getElem?_toArray, List.getElem?_cons_zero, List.getElem?_cons_succ]; exact rfl
        · exact rfl
        go_simp
        refine (Hc.out _ (bt3 Hb8.out hKd.low)).mono ?_
        rintro e w28 ⟨rfl, hb28⟩
        have hK28 : KeptR w8.heap.size w8 w28 := hKd.trans (KeptR.of_below hb28)
        refine hJ _ _ hK28 ?_
        clear hJ J hb28
        try simp only [Act.put, List.setIfInBounds_toArray, List.set_cons_zero, List.set_cons_succ]
        refine' hold_sole ?_ ?_ (fun J hJ => ?_)
        rotate_left 1
        · simp only [List.getElem?_toArray, List.getElem?_cons_zero, List.getElem?_cons_succ]; exact rfl
        · exact rfl
        go_simp
        refine (Hvx.out _ (bt3 Hb8.out hK28.low)).mono ?_
        rintro e w29 ⟨rs29, rfl, hm29, hb29⟩
        have hK29 : KeptR w8.heap.size w8 w29 := hK28.trans (KeptR.of_below hb29)
        refine hJ _ _ hK29 ?_
        clear hJ J hb29
        try simp only [Act.put, List.setIfInBounds_toArray, List.set_cons_zero, List.set_cons_succ]
        refine' hold_sole ?_ ?_ (fun J hJ => ?_)
        rotate_left 1
        · simp only [List.getElem?_toArray, List.getElem?_cons_zero, List.getElem?_cons_succ]; exact rfl
        · exact rfl
        go_simp
        refine (Hvy.out _ (bt3 Hb8.out hK29.low)).mono ?_
        rintro e w30 ⟨rs30, rfl, hm30, hb30⟩
        have hK30 : KeptR w8.heap.size w8 w30 := hK29.trans (KeptR.of_below hb30)
        have hma_30 := at3 hm29 hb30
        refine hJ _ _ hK30 ?_
        clear hJ J hb30
        try simp only [Act.put, List.setIfInBounds_toArray, List.set_cons_zero, List.set_cons_succ]
        refine' hold_sole ?_ ?_ (fun J hJ => ?_)
        rotate_left 1
        · simp only [List.getElem?_toArray, List.getElem?_cons_zero, List.getElem?_cons_succ]; exact rfl
        · exact rfl
        go_simp
        refine (HR.out _ _ _ hma_30 hm30).mono ?_
        rintro e w31 ⟨rfl, hb31⟩
        have hK31 : KeptR w8.heap.size w8 w31 := hK30.trans (KeptR.of_below hb31)
        have hma_31 := at3 hma_30 hb31
        have hmb_31 := at3 hm30 hb31
        refine hJ _ _ hK31 ?_
        clear hJ J hb31
        try simp only [Act.put, List.setIfInBounds_toArray, List.set_cons_zero, List.set_cons_succ]
        repeat (first
            | (refine' hold_skip ?_ ?_ ?_
               rotate_left 1
               · simp only [List.getElem?_toArray, List.getElem?_cons_zero, List.getElem?_cons_succ]; exact rfl
               · exact rfl
               simp only [Act.put, List.setIfInBounds_toArray, List.set_cons_zero, List.set_cons_succ])
            | (refine' hold_want ?_ ?_ (fun J hJ => ?_)
               rotate_left 1
               · simp only [List.getElem?_toArray, List.getElem?_cons_zero, List.getElem?_cons_succ]; exact rfl
               · exact rfl
               first
               | (refine quiet_load_val _ rfl w.heap.size 0 [.int .i64 k1, .int .u8 z1, .slice a1 len1 cap1] rfl (fun w' ⟨L1, hL1⟩ => hL1 ▸ HXx.out _ (bt3 Hb8.out L1.ok.low)) ?_; refine hJ _ ?_; clear hJ J; try simp only [Act.put, List.setIfInBounds_toArray, List.set_cons_zero, List.set_cons_succ])
               | (refine quiet_load_val _ rfl (w.heap.size + 1) 0 [.int .i64 k2, .int .u8 z2, .slice a2 len2 cap2] rfl (fun w' ⟨L1, hL1⟩ => hL1 ▸ HXy.out _ (bt3 Hb8.out L1.ok.low)) ?_; refine hJ _ ?_; clear hJ J; try simp only [Act.put, List.setIfInBounds_toArray, List.set_cons_zero, List.set_cons_succ])
               | (refine quiet_extract _ _ rfl _ _ rfl rfl ?_; refine hJ _ ?_; clear hJ J; try simp only [Act.put, List.setIfInBounds_toArray, List.set_cons_zero, List.set_cons_succ])
               | (go_big_quiet_op; refine hJ _ ?_; clear hJ J; try simp only [Act.put, List.setIfInBounds_toArray, List.set_cons_zero, List.set_cons_succ])))
        refine hold_done ?_
        have HE := Lib.hid (bt3 Hb8.out hK31.low)
        go_wp2_with fail
        go_ret
        exact ⟨rfl, HbW.out.trans (HE.out.mono HbW.out.size)⟩
end V
end Go.Proofs.Ytkekdfelcfoilaa
