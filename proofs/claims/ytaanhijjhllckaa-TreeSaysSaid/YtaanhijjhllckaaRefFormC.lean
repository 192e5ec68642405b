/- The document's own formed: k = 4. -/
import Derived.Test.YtaanhijjhllckaaRefForm0
namespace Go.Proofs.Ytaanhijjhllckaa
set_option maxRecDepth 100000
open Go.RowKit
set_option maxHeartbeats 64000000 in
theorem refFormC_any (m : Nat) (ih : ∀ (x : Nd) (cs : List Value) (w : World) (R next : Nat), x.count ≤ m → next + x.count ≤ 1000000 → RefOff R w x cs → RInt w R next →
    Calls Try.prog 20 #[.agg cs.toArray, .pointer (some ⟨R, 0, none⟩)] w (FPost w R (x.form next))) (k : Int) (s : BitVec 256) (lo hi n : Int) (l : List Nd) (hK : k = 4) (cs : List Value) (w : World) (R next : Nat) (hm : (Nd.mk k s lo hi n l).count ≤ m + 1) (hnx : next + (Nd.mk k s lo hi n l).count ≤ 1000000) (hat : RefOff R w (.mk k s lo hi n l) cs) (hR : RInt w R next) :
    Calls Try.prog 20 #[.agg cs.toArray, .pointer (some ⟨R, 0, none⟩)] w (FPost w R ((Nd.mk k s lo hi n l).form next)) := by
  have HK := Lib.hid hK
  clear hK
  unfold RefOff RefIn at hat
  rw [ref_mk] at hat
  obtain ⟨_, _, _, _, a, cap, rfl, hmax, hl⟩ := hat
  have hmx : (l.length : Int) ≤ 9223372036854775807 := by unfold maxLen at hmax; omega
  rw [count_mk] at hm hnx
  have hform : (Nd.mk k s lo hi n l).form next = _ := form_mk k s lo hi n l next
  obtain ⟨P, hP⟩ : ∃ P, P = FPost w R ((Nd.mk k s lo hi n l).form next) := ⟨_, rfl⟩
  rw [← hP]
  rw [hform] at hP
  have HP := Lib.hid hP
  have HL := Lib.hid hl
  have Hm := Lib.hid (And.intro hm hnx)
  have Hih := Lib.hid ih
  obtain ⟨W, hW⟩ : ∃ W, W = w.alloc (.cells (rdCells k s lo hi n (.slice a l.length cap)).toArray 36) := ⟨_, rfl⟩
  have hbel : Below w.heap.size w W := by rw [hW]; exact (Below.refl _ _).alloc (Nat.le_refl _) _
  have hnc : NCells W w.heap.size k s lo hi n (.slice a l.length cap) := by rw [hW]; exact ncells_box (rbox_start w _)
  have HNC := Lib.hid hnc
  have HBel := Lib.hid hbel
  have HR := Lib.hid (hR.below hbel)
  have HneR := Lib.hid (show w.heap.size ≠ R from fun e => by have := hR.lt; omega)
  generalize hC : rdCells k s lo hi n (.slice a l.length cap) = C at hW
  clear hC hP hl hm hnx hbel hnc hR hform hmax
  go_enter Try.func20, Try.ntmps20
  go_upto_region 1 with (first
    | (refine Go.Great.wpList_boxTo rfl _ _ rfl _ rfl w.heap.size rfl C.toArray rfl ?_)
    | fail)
  rw [← hW]
  clear hW
  obtain ⟨z, hz⟩ : ∃ z, z = decide (s = 0) := ⟨_, rfl⟩
  have heq := eql_zero s
  rw [← hz] at heq
  have Hz := Lib.hid hz
  clear hz
  unfold BV at heq
  obtain ⟨F, hF⟩ : ∃ F, F = bc s.getLsbD := ⟨_, rfl⟩
  obtain ⟨Z0, hZ0⟩ : ∃ Z0, Z0 = bc bNone := ⟨_, rfl⟩
  rw [← hF, ← hZ0] at heq
  have HF := Lib.hid hF
  have HZ0 := Lib.hid hZ0
  clear hF hZ0
  go_cut [40] from 7 to 39 (fun v wx => v = .bool (!((k == 1 || z) && (k == 4 || lo == 0 && hi == 0) && (k == 5 || n == 0))) ∧ wx = W)
  case first =>
    have c0 := HNC.out.c0
    have HSet := Lib.hid HNC.out.set
    have c257 := HNC.out.c257
    have c258 := HNC.out.c258
    have c259 := HNC.out.c259
    go_wp2_with (first
      | go_big_skip
      | (refine wpList_load_refF (by rfl) _ rfl w.heap.size 1 s.getLsbD rfl HSet.out F HF.out ?_)
      | (refine wpList_zero_refF (by rfl) rfl Z0 HZ0.out ?_)
      | fail)
    all_goals
      go_meet
      refine ⟨?_, rfl⟩
      clear HP HL Hm Hih HNC HBel HR HneR c0 HSet c257 c258 c259 HF HZ0 heq
      first
        | (simp_all; done)
        | (simp [*, bne]; done)
  case rest =>
    obtain ⟨rfl, rfl⟩ := hcut
    obtain ⟨W, rfl⟩ : ∃ W : World, W = wc := ⟨_, rfl⟩
    have Hfo := Lib.hid (show fieldsOk k s lo hi n l.length next = (((k == 1 || z) && (k == 4 || lo == 0 && hi == 0) && (k == 5 || n == 0)) && (if k = 1 then decide (s ≠ 0) && decide (l.length = 0)
     else if k = 2 ∨ k = 3 then decide (2 ≤ l.length)
     else if k = 4 then decide (l.length = 1) && decide (0 ≤ lo) && decide (lo ≤ 255) && (hi == -1 || decide (lo ≤ hi) && decide (hi ≤ 255))
     else if k = 5 then decide (l.length = 1) && n == (next : Int)
     else if k = 6 then decide (l.length = 1)
     else false)) from by rw [Hz.out]; rfl)
    obtain ⟨bk, hbk⟩ : ∃ bk, ((k == 1 || z) && (k == 4 || lo == 0 && hi == 0) && (k == 5 || n == 0)) = bk := ⟨_, rfl⟩
    rw [hbk] at Hfo ⊢
    obtain ⟨bn, hbn⟩ : ∃ bn, (!bk) = bn := ⟨_, rfl⟩
    rw [hbn]
    have Hbk := Lib.hid hbk
    clear hbk
    cases bn
    rotate_left 1
    · obtain rfl : bk = false := by simpa using hbn
      clear hbn
      have HF := Lib.hid (show fieldsOk k s lo hi n l.length next = false from by rw [Hfo.out]; simp)
      go_wp2_with (first | go_big_skip | fail)
      rw [HP.out, if_neg (by rw [HF.out]; simp)]
      exact ⟨rfl, Bar.of_below HBel.out⟩
    obtain rfl : bk = true := by simpa using hbn
    clear hbn
    go_upto_region 3 with fail
    have c0 := HNC.out.c0
    have HSet := Lib.hid HNC.out.set
    have c257 := HNC.out.c257
    have c258 := HNC.out.c258
    have c259 := HNC.out.c259
    have c260 := HNC.out.c260
    go_upto_block 0 with fail
    go_cut [] from 43 to 120 (fun wx => fieldsOk k s lo hi n l.length next = true ∧ k ≠ 1 ∧ RInt wx R ((if k = 5 then next + 1 else next : Nat)) ∧ Bar R w wx ∧ Bar R W wx)
    case first =>
      by_cases hk1 : k = 1
      · exact absurd (hk1.symm.trans HK.out) (by decide)
      by_cases hk2 : k = 2
      · exact absurd (hk2.symm.trans HK.out) (by decide)
      by_cases hk3 : k = 3
      · exact absurd (hk3.symm.trans HK.out) (by decide)
      by_cases hk4 : k = 4
      · subst hk4
        by_cases h1 : l.length = 1
        · have e1 : ((l.length : Int) != 1) = false := by simp; omega
          have e1' : ((l.length : Int) == 1) = true := by simp; omega
          by_cases h2 : 0 ≤ lo
          · have e2 : decide (lo < 0) = false := by simp; omega
            by_cases h3 : lo ≤ 255
            · have e3 : decide (255 < lo) = false := by simp; omega
              by_cases h4 : hi = -1
              · have e4 : (hi != -1) = false := by simp [h4]
                subst h4
                go_wp2_with (first | go_big_skip | fail)
                go_meet
                exact ⟨by rw [Hfo.out]; simp [h1, h2, h3], by decide, by rw [if_neg (by decide)]; exact HR.out, Bar.of_below HBel.out, Bar.refl _ _⟩
              · have e4 : (hi != -1) = true := by simp [h4]
                by_cases h5 : lo ≤ hi
                · have e5 : decide (hi < lo) = false := by simp; omega
                  by_cases h6 : hi ≤ 255
                  · have e6 : decide (255 < hi) = false := by simp; omega
                    go_wp2_with (first | go_big_skip | fail)
                    go_meet
                    exact ⟨by rw [Hfo.out]; simp [h1, h2, h3, h5, h6], by decide, by rw [if_neg (by decide)]; exact HR.out, Bar.of_below HBel.out, Bar.refl _ _⟩
                  · have e6 : decide (255 < hi) = true := by simp; omega
                    go_wp2_with (first | go_big_skip | fail)
                    rw [HP.out, if_neg (by rw [Hfo.out]; simp [h4, h6] <;> (intros; first | omega | (exfalso; omega)))]
                    exact ⟨rfl, Bar.of_below HBel.out⟩
                · have e5 : decide (hi < lo) = true := by simp; omega
                  go_wp2_with (first | go_big_skip | fail)
                  rw [HP.out, if_neg (by rw [Hfo.out]; simp [h4] <;> (intros; first | omega | (exfalso; omega)))]
                  exact ⟨rfl, Bar.of_below HBel.out⟩
            · have e3 : decide (255 < lo) = true := by simp; omega
              go_wp2_with (first | go_big_skip | fail)
              rw [HP.out, if_neg (by rw [Hfo.out]; simp <;> (intros; first | omega | (exfalso; omega)))]
              exact ⟨rfl, Bar.of_below HBel.out⟩
          · have e2 : decide (lo < 0) = true := by simp; omega
            go_wp2_with (first | go_big_skip | fail)
            rw [HP.out, if_neg (by rw [Hfo.out]; simp <;> (intros; first | omega | (exfalso; omega)))]
            exact ⟨rfl, Bar.of_below HBel.out⟩
        · have e1 : ((l.length : Int) != 1) = true := by simp; omega
          have e1' : ((l.length : Int) == 1) = false := by simp; omega
          go_wp2_with (first | go_big_skip | fail)
          rw [HP.out, if_neg (by rw [Hfo.out]; simp [h1] <;> (intros; first | omega | (exfalso; omega)))]
          exact ⟨rfl, Bar.of_below HBel.out⟩
      by_cases hk5 : k = 5
      · exact absurd (hk5.symm.trans HK.out) (by decide)
      by_cases hk6 : k = 6
      · exact absurd (hk6.symm.trans HK.out) (by decide)
      exact absurd HK.out hk4
    case rest =>
      obtain ⟨hfo, hk1, hri0, hbar0, hbc0⟩ := hcut
      have HF := Lib.hid hfo
      obtain ⟨nx0, hnx0⟩ : ∃ nx0 : Nat, nx0 = if k = 5 then next + 1 else next := ⟨_, rfl⟩
      rw [← hnx0] at hri0
      have Hn0 := Lib.hid (And.intro hnx0 (show nx0 ≤ next + 1 by rw [hnx0]; split <;> omega))
      have Hkk : Hid (k = 2 ∨ k = 3 ∨ k = 4 ∨ k = 5 ∨ k = 6) := Lib.hid (by
        refine Classical.byContradiction fun hn => ?_
        simp only [not_or] at hn
        rw [Hfo.out] at hfo
        simp [hk1, hn.1, hn.2.1, hn.2.2.1, hn.2.2.2.1, hn.2.2.2.2] at hfo)
      have HRl := Lib.hid hri0
      have HBl := Lib.hid (And.intro hbar0 hbc0)
      clear hfo hk1 hri0 hbar0 hbc0 hnx0 c0 c257 c258 c259 c260 heq
      go_upto_region 22 with fail
      go_loopw [5, 6] (fun i _ wr => ∃ j nx : Nat, i = .int .i64 j ∧ j ≤ l.length ∧ Hid (forms k l nx0 = forms k (l.drop j) nx ∧ nx ≤ nx0 + counts (l.take j)) ∧ Hid (RInt wr R nx) ∧ Hid (Bar R w wr ∧ Bar R W wr)) (fun i _ _ => l.length - (intOf i).toNat)
      case atStart => exact ⟨0, nx0, rfl, Nat.zero_le _, ⟨rfl, by rw [List.take_zero]; unfold counts; omega⟩, HRl.out, HBl.out⟩
      case round =>
        obtain ⟨j, nx, rfl, hj, Hfm, hri, hbar⟩ := hrel
        have c0 := (HNC.out.bar hbar.out.2 HneR.out).c0
        have c260 := (HNC.out.bar hbar.out.2 HneR.out).c260
        have Hbw := Lib.hid hbar.out.1
        have Hbc := Lib.hid hbar.out.2
        have Hri := Lib.hid hri.out
        by_cases hjl : j < l.length
        · have d1 : decide ((j : Int) < l.length) = true := by simp; omega
          have Hjl := Lib.hid hjl
          obtain ⟨b, off, cs, rfl, hcap, h261, hkd, hro⟩ := refOff_get HL.out hbar.out.1 hjl
          have hstep := forms_step Hfm.out.1 hjl
          have hmem := counts_mem (List.getElem_mem hjl)
          have hts := counts_take_succ l j hjl
          generalize l[j]'hjl = X at hstep hmem hts hkd hro
          have hcall := Hih.out X cs wr R nx (by have := Hm.out; omega)
            (by have h2 := counts_take_le l (j + 1); have h3 := Hm.out; have h4 := Hfm.out.2; have h5 := Hn0.out.2; omega) hro hri.out
          have Hcall := Lib.hid hcall
          have Hstep := Lib.hid hstep
          have Hts := Lib.hid hts
          obtain ⟨c, hc⟩ : ∃ c, X.kind = c := ⟨_, rfl⟩
          rw [hc] at hkd
          have Hc := Lib.hid hc
          have H261 := Lib.hid h261
          clear hcall hro hc hri hbar h261 hstep hmem hts
          obtain ⟨fr, hfr⟩ : ∃ fr, fr = X.form nx := ⟨_, rfl⟩
          have Hle : Hid (∀ n', fr = some n' → n' ≤ nx + X.count) := Lib.hid fun n' h => form_le X nx n' (by rw [← hfr, h])
          have hcall2 := Hcall.out
          have hstep2 := Hstep.out
          rw [← hfr] at hcall2 hstep2
          have Hstep2 := Lib.hid hstep2
          have Hcall2 := Lib.hid hcall2
          have hcall3 : Calls Try.prog 20 #[.agg cs.toArray, .pointer (some ⟨R, 0, none⟩)] wr fun e w' => e = .returned (.bool fr.isSome) ∧ Bar R wr w' ∧ ∀ n', fr = some n' → RInt w' R n' := hcall2.mono fun e w' h => by
            cases fr with
            | none => exact ⟨h.1, h.2, fun n' hn => by cases hn⟩
            | some q => exact ⟨h.1, h.2.2, fun n' hn => by cases hn; exact h.2.1⟩
          have Hcall3 := Lib.hid hcall3
          clear hfr hcall2 hstep2 hcall3 Hcall Hstep Hcall2
          go_upto_region 25 with fail
          go_cut [180] from 134 to 179 (fun v wx => v = .bool (!(within k c) || fr.isNone) ∧ (within k c = true → ∀ n', fr = some n' → RInt wx R n') ∧ Bar R wr wx)
          case first =>
            rename_i J0 K0 hR0 hMet0
            rcases Hkk.out with rfl | rfl | rfl | hkk
            · exact absurd HK.out (by decide)
            · exact absurd HK.out (by decide)
            · by_cases hq2 : c = 2
              · subst hq2
                clear HP HL Hm Hih HNC HBel HR HneR HF HZ0 Hfm Hjl Hstep2 Hts Hc Hle Hbw Hbc Hri HRl HBl Hn0 Hfo Hz Hbk Hkk HSet
                clear Hcall3
                refine wp_region_lit ?_
                refine text_hide (fun Q0 hQ0 => ?_)
                have HQ0 := Lib.hid hQ0
                clear hQ0
                repeat (first
                  | go_big_skip
                  | (go_big_want
                     rename_i J hJ
                     refine wp_quiet rfl ?_
                     first
                       | (refine quiet_load_one agg_int5 _ rfl ⟨w.heap.size, 0, none⟩ (.int .i64 _) rfl (fun w' hw' => by rw [hw']; exact c0) ?_; refine hJ _ _ ?_; clear hJ J; simp only [Act.put, List.setIfInBounds_toArray, List.set_cons_zero, List.set_cons_succ])
                       | (go_big_quiet_op; refine hJ _ _ ?_; clear hJ J))
                  | (refine' wpList_plain rfl (fun J hJ => ?_)
                     refine wp_quiet rfl ?_
                     first
                       | (refine quiet_load_one agg_int5 _ rfl ⟨w.heap.size, 0, none⟩ (.int .i64 _) rfl (fun w' hw' => by rw [hw']; exact c0) ?_; refine hJ _ _ ?_; clear hJ J; simp only [Act.put, List.setIfInBounds_toArray, List.set_cons_zero, List.set_cons_succ])
                       | (go_big_quiet_op; refine hJ _ _ ?_; clear hJ J)))
                refine text_nil ?_
                refine HQ0.out _ _ _ ?_
                refine hMet0 _ _ (Met.intro (hR0 _ _ ?_))
                repeat apply Exists.intro
                refine ⟨?_, rfl⟩
                exact ⟨rfl, fun h => by (have h' : false = true := h; cases h'), Bar.refl _ _⟩
              by_cases hq3 : c = 3
              · subst hq3
                clear HP HL Hm Hih HNC HBel HR HneR HF HZ0 Hfm Hjl Hstep2 Hts Hc Hle Hbw Hbc Hri HRl HBl Hn0 Hfo Hz Hbk Hkk HSet
                clear Hcall3
                refine wp_region_lit ?_
                refine text_hide (fun Q0 hQ0 => ?_)
                have HQ0 := Lib.hid hQ0
                clear hQ0
                repeat (first
                  | go_big_skip
                  | (go_big_want
                     rename_i J hJ
                     refine wp_quiet rfl ?_
                     first
                       | (refine quiet_load_one agg_int5 _ rfl ⟨w.heap.size, 0, none⟩ (.int .i64 _) rfl (fun w' hw' => by rw [hw']; exact c0) ?_; refine hJ _ _ ?_; clear hJ J; simp only [Act.put, List.setIfInBounds_toArray, List.set_cons_zero, List.set_cons_succ])
                       | (go_big_quiet_op; refine hJ _ _ ?_; clear hJ J))
                  | (refine' wpList_plain rfl (fun J hJ => ?_)
                     refine wp_quiet rfl ?_
                     first
                       | (refine quiet_load_one agg_int5 _ rfl ⟨w.heap.size, 0, none⟩ (.int .i64 _) rfl (fun w' hw' => by rw [hw']; exact c0) ?_; refine hJ _ _ ?_; clear hJ J; simp only [Act.put, List.setIfInBounds_toArray, List.set_cons_zero, List.set_cons_succ])
                       | (go_big_quiet_op; refine hJ _ _ ?_; clear hJ J)))
                refine text_nil ?_
                refine HQ0.out _ _ _ ?_
                refine hMet0 _ _ (Met.intro (hR0 _ _ ?_))
                repeat apply Exists.intro
                refine ⟨?_, rfl⟩
                exact ⟨rfl, fun h => by (have h' : false = true := h; cases h'), Bar.refl _ _⟩
              by_cases hq4 : c = 4
              · subst hq4
                clear HP HL Hm Hih HNC HBel HR HneR HF HZ0 Hfm Hjl Hstep2 Hts Hc Hle Hbw Hbc Hri HRl HBl Hn0 Hfo Hz Hbk Hkk HSet
                clear Hcall3
                refine wp_region_lit ?_
                refine text_hide (fun Q0 hQ0 => ?_)
                have HQ0 := Lib.hid hQ0
                clear hQ0
                repeat (first
                  | go_big_skip
                  | (go_big_want
                     rename_i J hJ
                     refine wp_quiet rfl ?_
                     first
                       | (refine quiet_load_one agg_int5 _ rfl ⟨w.heap.size, 0, none⟩ (.int .i64 _) rfl (fun w' hw' => by rw [hw']; exact c0) ?_; refine hJ _ _ ?_; clear hJ J; simp only [Act.put, List.setIfInBounds_toArray, List.set_cons_zero, List.set_cons_succ])
                       | (go_big_quiet_op; refine hJ _ _ ?_; clear hJ J))
                  | (refine' wpList_plain rfl (fun J hJ => ?_)
                     refine wp_quiet rfl ?_
                     first
                       | (refine quiet_load_one agg_int5 _ rfl ⟨w.heap.size, 0, none⟩ (.int .i64 _) rfl (fun w' hw' => by rw [hw']; exact c0) ?_; refine hJ _ _ ?_; clear hJ J; simp only [Act.put, List.setIfInBounds_toArray, List.set_cons_zero, List.set_cons_succ])
                       | (go_big_quiet_op; refine hJ _ _ ?_; clear hJ J)))
                refine text_nil ?_
                refine HQ0.out _ _ _ ?_
                refine hMet0 _ _ (Met.intro (hR0 _ _ ?_))
                repeat apply Exists.intro
                refine ⟨?_, rfl⟩
                exact ⟨rfl, fun h => by (have h' : false = true := h; cases h'), Bar.refl _ _⟩
              have hc2 : (c == 2) = false := by simp [hq2]
              have hc3 : (c == 3) = false := by simp [hq3]
              have hc4 : (c == 4) = false := by simp [hq4]
              clear hq2 hq3 hq4
              have hwt : within 4 c = true := by unfold within; simp only [hc2, hc3, hc4]; rfl
              clear HP HL Hm Hih HNC HBel HR HneR HF HZ0 Hfm Hjl Hstep2 Hts Hc Hle Hbw Hbc Hri HRl HBl Hn0 Hfo Hz Hbk Hkk HSet
              have hcall := Hcall3.out
              clear Hcall3
              refine wp_region_lit ?_
              refine text_hide (fun Q0 hQ0 => ?_)
              have HQ0 := Lib.hid hQ0
              clear hQ0
              repeat (first
                | go_big_skip
                | (go_big_want
                   rename_i J hJ
                   refine wp_quiet rfl ?_
                   first
                     | (refine quiet_load_one agg_int5 _ rfl ⟨w.heap.size, 0, none⟩ (.int .i64 _) rfl (fun w' hw' => by rw [hw']; exact c0) ?_; refine hJ _ _ ?_; clear hJ J; simp only [Act.put, List.setIfInBounds_toArray, List.set_cons_zero, List.set_cons_succ])
                     | (refine quiet_load_one agg_nodes5 _ rfl ⟨w.heap.size, 260, none⟩ _ rfl (fun w' hw' => by rw [hw']; exact c260) ?_; refine hJ _ _ ?_; clear hJ J; simp only [Act.put, List.setIfInBounds_toArray, List.set_cons_zero, List.set_cons_succ])
                     | (refine quiet_load_refnode5 _ rfl b (off + j * 261) cs rfl (fun w' hw' => by rw [hw']; exact H261.out) ?_; refine hJ _ _ ?_; clear hJ J; simp only [Act.put, List.setIfInBounds_toArray, List.set_cons_zero, List.set_cons_succ])
                     | (go_big_quiet_op; refine hJ _ _ ?_; clear hJ J))
                | (refine' wpList_plain rfl (fun J hJ => ?_)
                   refine wp_quiet rfl ?_
                   first
                     | (refine quiet_load_one agg_int5 _ rfl ⟨w.heap.size, 0, none⟩ (.int .i64 _) rfl (fun w' hw' => by rw [hw']; exact c0) ?_; refine hJ _ _ ?_; clear hJ J; simp only [Act.put, List.setIfInBounds_toArray, List.set_cons_zero, List.set_cons_succ])
                     | (refine quiet_load_one agg_nodes5 _ rfl ⟨w.heap.size, 260, none⟩ _ rfl (fun w' hw' => by rw [hw']; exact c260) ?_; refine hJ _ _ ?_; clear hJ J; simp only [Act.put, List.setIfInBounds_toArray, List.set_cons_zero, List.set_cons_succ])
                     | (refine quiet_load_refnode5 _ rfl b (off + j * 261) cs rfl (fun w' hw' => by rw [hw']; exact H261.out) ?_; refine hJ _ _ ?_; clear hJ J; simp only [Act.put, List.setIfInBounds_toArray, List.set_cons_zero, List.set_cons_succ])
                     | (go_big_quiet_op; refine hJ _ _ ?_; clear hJ J)))
              refine' text_sole ?_ (fun J hJ => ?_)
              · exact rfl
              go_simp
              refine hcall.mono ?_
              clear hcall
              rintro e w3 ⟨rfl, hbar3, hri3⟩
              have Hbar3 := Lib.hid hbar3
              have Hri3 := Lib.hid hri3
              clear hbar3 hri3
              refine hJ _ _ ?_
              clear hJ J
              try simp only [Act.put, List.setIfInBounds_toArray, List.set_cons_zero, List.set_cons_succ]
              repeat (first
                | go_big_skip
                | (go_big_want
                   rename_i J hJ
                   refine wp_quiet rfl ?_
                   first
                     | (go_big_quiet_op; refine hJ _ _ ?_; clear hJ J))
                | (refine' wpList_plain rfl (fun J hJ => ?_)
                   refine wp_quiet rfl ?_
                   first
                     | (go_big_quiet_op; refine hJ _ _ ?_; clear hJ J)))
              refine text_nil ?_
              refine HQ0.out _ _ _ ?_
              refine hMet0 _ _ (Met.intro (hR0 _ _ ?_))
              repeat apply Exists.intro
              refine ⟨?_, rfl⟩
              exact ⟨by rw [hwt]; cases fr <;> rfl, fun _ => Hri3.out, Hbar3.out⟩
            · rcases hkk with rfl | rfl <;> exact absurd HK.out (by decide)
          case rest =>
            obtain ⟨rfl, hri2, hbar2⟩ := hcut
            obtain ⟨wq, rfl⟩ : ∃ wq : World, wq = wc := ⟨_, rfl⟩
            have Hbar2 := Lib.hid hbar2
            cases hwk : within k c with
            | false =>
              have Hwk := Lib.hid hwk
              have hv : (!(within k c) || fr.isNone) = true := by rw [hwk]; rfl
              rw [hwk] at hv
              try rw [hv]
              clear hri2 hbar2 hwk
              go_wp2_with fail
              rw [HP.out, if_pos HF.out, ← Hn0.out.1, Hstep2.out, Hc.out, Hwk.out, if_neg (by decide)]
              exact ⟨rfl, Hbw.out.trans Hbar2.out⟩
            | true =>
              cases fr with
              | none =>
                have Hwk := Lib.hid hwk
                clear hri2 hbar2 hwk
                go_wp2_with fail
                rw [HP.out, if_pos HF.out, ← Hn0.out.1, Hstep2.out, Hc.out, Hwk.out, if_pos rfl]
                exact ⟨rfl, Hbw.out.trans Hbar2.out⟩
              | some n' =>
                have Hri2 := Lib.hid (hri2 hwk n' rfl)
                have Hwk := Lib.hid hwk
                have hv : (!true || (some n' : Option Nat).isNone) = false := rfl
                rw [hv]
                clear hri2 hbar2 hwk hv
                go_wp2_with fail
                go_roundw
                case rel => exact ⟨j + 1, n', by go_num, by omega, ⟨by rw [Hstep2.out, Hc.out, Hwk.out, if_pos rfl]; rfl, by have h1 := Hle.out n' rfl; have h2 := Hts.out; have h3 := Hfm.out.2; omega⟩, Hri2.out, ⟨Hbw.out.trans Hbar2.out, Hbc.out.trans Hbar2.out⟩⟩
                case measure => simp [intOf]; omega
        · have d1 : decide ((j : Int) < l.length) = false := by simp; omega
          obtain rfl : j = l.length := by omega
          have Hri := Lib.hid hri.out
          clear hj hjl hri hbar
          go_wp2_with fail
          rw [HP.out, if_pos HF.out, ← Hn0.out.1, Hfm.out.1, List.drop_length, forms_nil]
          exact ⟨rfl, Hri.out, Hbw.out⟩
end Go.Proofs.Ytaanhijjhllckaa
