/- The walk of law 9's LangStars. -/
import Derived.Test.YtobhjfhmhhahoaaLangAwake
import Derived.Test.YtobhjfhmhhahoaaCoreBig
import Derived.Test.YtobhjfhmhhahoaaCoreParts
namespace Go.Proofs.Ytobhjfhmhhahoaa
open K
set_option maxRecDepth 100000
open Go.RowKit
set_option maxHeartbeats 8000000 in
theorem langStars_walk (x : Cr) (cs : List Value) (a : Option Addr) (n cap : Nat) (l : List Nat) (w : World) (hx : Cr.at w x cs) (hl : BytesAt w a n cap l) :
    Calls Try.prog 6 #[.agg cs.toArray, .slice a n cap] w fun e w' => e = .returned (.bool true) ∧ Below w.heap.size w w' := by
  have atx := fun (w' : World) (hb : Below w.heap.size w w') => Cr.at_below hb (Nat.le_refl _) _ _ hx
  have atl := fun (w' : World) (hb : Below w.heap.size w w') => bytes_keep hl hb
  have hbig := fun (w' : World) (hb : Below w.heap.size w w') => big_any 50 x cs w' (by decide) (atx w' hb)
  have hsize := fun (w' : World) (hb : Below w.heap.size w w') => K.size_walk (atx w' hb)
  have hgood := fun (w' : World) (hb : Below w.heap.size w w') => K.good_walk (atx w' hb)
  have hstar := fun (w' : World) (hb : Below w.heap.size w w') => star_walk (atx w' hb)
  have hn := hl.1
  have hlt := hl.2.1
  obtain ⟨kx, sx, nx, ax, lenx, capx, rfl⟩ := K.at_lit hx
  obtain ⟨W, hW⟩ : ∃ W, W = w.alloc (.cells #[.int .i64 kx, .int .u64 (word sx 0), .int .u64 (word sx 1), .int .u64 (word sx 2), .int .u64 (word sx 3), .int .i64 nx, .slice ax lenx capx] 28) := ⟨_, rfl⟩
  have hal : Below w.heap.size w W := by rw [hW]; exact alloc_below w _
  have hcx : CoreIn W w.heap.size #[.int .i64 kx, .int .u64 (word sx 0), .int .u64 (word sx 1), .int .u64 (word sx 2), .int .u64 (word sx 3), .int .i64 nx, .slice ax lenx capx] := by rw [hW]; exact World.alloc_heap_new w _
  have h7x : ∀ w' : World, Below W.heap.size W w' → Core7 w' w.heap.size 0 [.int .i64 kx, .int .u64 (word sx 0), .int .u64 (word sx 1), .int .u64 (word sx 2), .int .u64 (word sx 3), .int .i64 nx, .slice ax lenx capx] := fun w' hb => core7_in (core_later hb hcx) rfl
  have hup : ∀ w' : World, Below W.heap.size W w' → Below w.heap.size w w' := fun w' hb => hal.trans (hb.mono hal.size)
  have hfacts : sizeOfC x ≤ 60 → goodC x = true → n ≤ 8 → (saysC (.mk 5 0 0 [x]) l = saysC (.mk 5 0 0 [.mk 5 0 0 [x]]) l ∧ endsC (.mk 5 0 0 [x]) l 0 = endsC (.mk 3 0 0 [.mk 5 0 0 [x], .mk 5 0 0 [x]]) l 0 ∧ nullC (.mk 5 0 0 [x]) = true) := fun h1 h2 h3 => by
    have hc := count_of_size h1 (by decide)
    have hf := (good_form h2).1
    have hl' : l.length ≤ 256 := by omega
    exact ⟨stars_says hf (by omega) hl' hlt, stars_ends hf (by omega) hl' hlt, stars_null hf (by omega)⟩
  have H7x := Lib.hid h7x
  have Hal := Lib.hid hal
  have Hup := Lib.hid hup
  have Hbig := Lib.hid hbig
  have Hsize := Lib.hid hsize
  have Hgood := Lib.hid hgood
  have Hstar := Lib.hid hstar
  have Hatl := Lib.hid atl
  have Hfacts := Lib.hid hfacts
  have Hb0 := Lib.hid (Below.refl W.heap.size W)
  clear atx atl hbig hsize hgood hstar hn hlt hal hcx h7x hup hfacts hx hl
  go_enter Try.func6, Try.ntmps6
  go_upto_region 1 with fail
  rw [← hW]
  clear hW
  go_wp2_with fail
  refine (awake9_walk _).mono ?_
  rintro e w1 ⟨rfl, hb'⟩
  have Hb1 := Lib.hid (Hb0.out.trans (hb'.mono Hb0.out.size))
  clear hb'
  go_wp2_with (first | (refine K.wpList_load_node_want rfl _ rfl w.heap.size 0 _ rfl (H7x.out _ Hb1.out) ?_) | fail)
  refine (Hbig.out _ (Hup.out _ Hb1.out)).mono ?_
  rintro e w2 ⟨rfl, hb'⟩
  have Hb2 := Lib.hid (Hb1.out.trans (hb'.mono Hb1.out.size))
  clear hb'
  generalize bigN 50 x = bx at *
  cases bx
  case true =>
    go_wp2_with fail
    go_ret
    exact ⟨rfl, Hup.out _ Hb2.out⟩
  go_wp2_with (first | (refine K.wpList_load_node_want rfl _ rfl w.heap.size 0 _ rfl (H7x.out _ Hb2.out) ?_) | fail)
  refine (Hsize.out _ (Hup.out _ Hb2.out)).mono ?_
  rintro e w3 ⟨rfl, hb'⟩
  have Hb3 := Lib.hid (Hb2.out.trans (hb'.mono Hb2.out.size))
  clear hb'
  by_cases c1 : 60 < sizeOfC x
  · have d1 : decide ((sizeOfC x : Int) > 60) = true := by simp; omega
    have d2 : decide ((60 : Int) < (sizeOfC x : Int)) = true := by simp; omega
    have d3 : decide (60 < sizeOfC x) = true := by simp; omega
    clear c1
    go_wp2_with fail
    go_ret
    exact ⟨rfl, Hup.out _ Hb3.out⟩
  have d1 : decide ((sizeOfC x : Int) > 60) = false := by simp; omega
  have d2 : decide ((60 : Int) < (sizeOfC x : Int)) = false := by simp; omega
  have d3 : decide (60 < sizeOfC x) = false := by simp; omega
  have C1 : sizeOfC x ≤ 60 := by omega
  by_cases c2 : 8 < n
  · have d4 : decide ((n : Int) > 8) = true := by simp; omega
    have d5 : decide ((8 : Int) < (n : Int)) = true := by simp; omega
    have d6 : decide (8 < n) = true := by simp; omega
    clear c1 c2 C1
    go_wp2_with fail
    go_ret
    exact ⟨rfl, Hup.out _ Hb3.out⟩
  have d4 : decide ((n : Int) > 8) = false := by simp; omega
  have d5 : decide ((8 : Int) < (n : Int)) = false := by simp; omega
  have d6 : decide (8 < n) = false := by simp; omega
  have C2 : n ≤ 8 := by omega
  clear c1 c2
  go_wp2_with (first | (refine K.wpList_load_node_want rfl _ rfl w.heap.size 0 _ rfl (H7x.out _ Hb3.out) ?_) | fail)
  refine (Hgood.out _ (Hup.out _ Hb3.out)).mono ?_
  rintro e w4 ⟨rfl, hb'⟩
  have Hb4 := Lib.hid (Hb3.out.trans (hb'.mono Hb3.out.size))
  clear hb'
  cases hg : goodC x
  case false =>
    clear hg
    go_wp2_with fail
    go_ret
    exact ⟨rfl, Hup.out _ Hb4.out⟩
  have HF := Lib.hid (Hfacts.out C1 hg C2)
  clear hg C1 C2 d1 d2 d3 Hfacts
  go_wp2_with (first | (refine K.wpList_load_node_want rfl _ rfl w.heap.size 0 _ rfl (H7x.out _ Hb4.out) ?_) | fail)
  refine (Hstar.out _ (Hup.out _ Hb4.out)).mono ?_
  rintro e w5 ⟨zs, rfl, hz, hb'⟩
  have Hb5 := Lib.hid (Hb4.out.trans (hb'.mono Hb4.out.size))
  have hz0 := hz
  obtain ⟨kz, sz, nz, az, lenz, capz, rfl⟩ := K.at_lit hz
  clear hb'
  obtain ⟨bz, hbz⟩ : ∃ bz, bz = w5.heap.size := ⟨_, rfl⟩
  obtain ⟨wd, hwd⟩ : ∃ wd, wd = (w5.alloc (.cells #[.int .i64 kz, .int .u64 (word sz 0), .int .u64 (word sz 1), .int .u64 (word sz 2), .int .u64 (word sz 3), .int .i64 nz, .slice az lenz capz] 28)).drew := ⟨_, rfl⟩
  have hbd : Below w5.heap.size w5 wd := by rw [hwd]; exact (alloc_below w5 _).drew
  have hcz : CoreIn wd bz #[.int .i64 kz, .int .u64 (word sz 0), .int .u64 (word sz 1), .int .u64 (word sz 2), .int .u64 (word sz 3), .int .i64 nz, .slice az lenz capz] := by rw [hwd, hbz]; exact World.alloc_heap_new w5 _
  have hzd := Cr.at_below hbd (Nat.le_refl _) _ _ hz0
  have hup5 : Below w.heap.size w wd := Hup.out _ (Hb5.out.trans (hbd.mono Hb5.out.size))
  have hld := Hatl.out wd hup5
  obtain ⟨C, hC⟩ : ∃ C : World → Prop, C = fun w' => Below wd.heap.size wd w' := ⟨_, rfl⟩
  have hCd : C wd := by rw [hC]; exact Below.refl _ _
  have hCB : ∀ w', C w' → Below wd.heap.size wd w' := by rw [hC]; exact fun w' h => h
  have Hcw := Lib.hid (show ∀ w' w2, C w' → Below w'.heap.size w' w2 → C w2 by rw [hC]; exact fun w' w2 h hb => h.trans (hb.mono h.size))
  have Hcat := Lib.hid (show ∀ w', C w' → Cr.at w' (.mk 5 0 0 [x]) _ by rw [hC]; exact fun w' h => Cr.at_below h (Nat.le_refl _) _ _ hzd)
  have Hcl := Lib.hid (show ∀ w', C w' → BytesAt w' a n cap l by rw [hC]; exact fun w' h => bytes_keep hld h)
  have Hcb := Lib.hid (show ∀ w', C w' → Below w.heap.size w w' by rw [hC]; exact fun w' h => hup5.trans (h.mono hup5.size))
  have h7z : ∀ w', (∃ L : HeldW C, w' = L.val) → Core7 w' bz 0 [.int .i64 kz, .int .u64 (word sz 0), .int .u64 (word sz 1), .int .u64 (word sz 2), .int .u64 (word sz 3), .int .i64 nz, .slice az lenz capz] := fun w' h => by
    obtain ⟨L, rfl⟩ := h
    exact core7_in (core_later (hCB _ L.ok) hcz) rfl
  have hne : Nonempty (HeldW C) := HeldW.nonempty hCd
  have HC := Lib.hid hCd
  have Hcd := Lib.hid hCd
  clear hC hCB hCd hz hz0 hzd hcz hbd hup5 hld
  obtain ⟨E1, E2, E3⟩ := HF.out
  have E1 := Lib.hid E1
  have E2 := Lib.hid E2
  have E3 := Lib.hid E3
  clear HF
  obtain ⟨sb, hsb⟩ : ∃ sb, saysC (.mk 5 0 0 [.mk 5 0 0 [x]]) l = sb := ⟨_, rfl⟩
  have SB := Lib.hid hsb
  have E1 := Lib.hid (E1.out.trans hsb)
  clear hsb
  go_upto_region 6 with fail
  rw [← hbz]
  clear hbz
  refine wp_region_hold C (.plain 0 (.plain 1 (.plain 3 (.plain 5 (.sole 2 (.sole 4 (.sole 6 (.plain 7 (.plain 8 (.plain 9 (.plain 10 (.plain 12 (.plain 13 (.plain 15 (.sole 11 (.sole 14 (.sole 16 (.sole 17 (.plain 18 (.plain 19 (.plain 20 (.sole 21 (.plain 22 (.plain 23 .done)))))))))))))))))))))))) (by rw [← hwd]; exact Hcd.out) (by kernel_rfl) (by kernel_rfl) (fun c a d v w h => by cases d <;> exact h) ?_
  rw [← hwd]
  clear hwd

  repeat (first
      | (refine' hold_skip ?_ ?_ ?_
         rotate_left 1
         · simp only [List.getElem?_toArray, List.getElem?_cons_zero, List.getElem?_cons_succ]; exact rfl
         · exact rfl
         simp only [Act.put, List.setIfInBounds_toArray, List.set_cons_zero, List.set_cons_succ])
      | (refine' hold_want ?_ ?_ (fun K hK => ?_)
         rotate_left 1
         · simp only [List.getElem?_toArray, List.getElem?_cons_zero, List.getElem?_cons_succ]; exact rfl
         · exact rfl
         first
         | (refine quiet_load_core _ rfl bz 0 _ rfl h7z ?_; refine hK _ ?_; clear hK K; try simp only [Act.put, List.setIfInBounds_toArray, List.set_cons_zero, List.set_cons_succ])
         | (go_big_quiet_op; refine hK _ ?_; clear hK K)))
  refine' hold_sole ?_ ?_ (fun K hK => ?_)
  rotate_left 1
  · simp only [List.getElem?_toArray, List.getElem?_cons_zero, List.getElem?_cons_succ]; exact rfl
  · exact rfl
  go_simp
  refine (says_eq (Hcat.out _ HC.out) (Hcl.out _ HC.out) E1.out).mono ?_
  rintro e wa ⟨rfl, hb⟩
  refine hK _ _ (Hcw.out _ _ HC.out hb) ?_
  have HC := Lib.hid (Hcw.out _ _ HC.out hb)
  clear hb
  clear hK K
  try simp only [Act.put, List.setIfInBounds_toArray, List.set_cons_zero, List.set_cons_succ]
  refine' hold_sole ?_ ?_ (fun K hK => ?_)
  rotate_left 1
  · simp only [List.getElem?_toArray, List.getElem?_cons_zero, List.getElem?_cons_succ]; exact rfl
  · exact rfl
  go_simp
  refine (star_walk (Hcat.out _ HC.out)).mono ?_
  rintro e wb ⟨z2, rfl, hat, hb⟩
  refine hK _ _ (Hcw.out _ _ HC.out hb) ?_
  have HC := Lib.hid (Hcw.out _ _ HC.out hb)
  have A2 := Lib.hid hat
  clear hat
  clear hb
  clear hK K
  try simp only [Act.put, List.setIfInBounds_toArray, List.set_cons_zero, List.set_cons_succ]
  refine' hold_sole ?_ ?_ (fun K hK => ?_)
  rotate_left 1
  · simp only [List.getElem?_toArray, List.getElem?_cons_zero, List.getElem?_cons_succ]; exact rfl
  · exact rfl
  go_simp
  refine (says_eq A2.out (Hcl.out _ HC.out) (b := sb) SB.out).mono ?_
  rintro e wc ⟨rfl, hb⟩
  refine hK _ _ (Hcw.out _ _ HC.out hb) ?_
  have HC := Lib.hid (Hcw.out _ _ HC.out hb)
  clear hb
  clear hK K
  try simp only [Act.put, List.setIfInBounds_toArray, List.set_cons_zero, List.set_cons_succ]
  repeat (first
      | (refine' hold_skip ?_ ?_ ?_
         rotate_left 1
         · simp only [List.getElem?_toArray, List.getElem?_cons_zero, List.getElem?_cons_succ]; exact rfl
         · exact rfl
         simp only [Act.put, List.setIfInBounds_toArray, List.set_cons_zero, List.set_cons_succ])
      | (refine' hold_want ?_ ?_ (fun K hK => ?_)
         rotate_left 1
         · simp only [List.getElem?_toArray, List.getElem?_cons_zero, List.getElem?_cons_succ]; exact rfl
         · exact rfl
         first
         | (refine quiet_load_core _ rfl bz 0 _ rfl h7z ?_; refine hK _ ?_; clear hK K; try simp only [Act.put, List.setIfInBounds_toArray, List.set_cons_zero, List.set_cons_succ])
         | (go_big_quiet_op; refine hK _ ?_; clear hK K)))
  refine' hold_sole ?_ ?_ (fun K hK => ?_)
  rotate_left 1
  · simp only [List.getElem?_toArray, List.getElem?_cons_zero, List.getElem?_cons_succ]; exact rfl
  · exact rfl
  go_simp
  refine (ends_eq' (Hcat.out _ HC.out) (Hcl.out _ HC.out) 0 E2.out).mono ?_
  rintro e we ⟨v1, rfl, hat, hb⟩
  refine hK _ _ (Hcw.out _ _ HC.out hb) ?_
  have HC := Lib.hid (Hcw.out _ _ HC.out hb)
  have A3 := Lib.hid hat
  clear hat
  clear hb
  clear hK K
  try simp only [Act.put, List.setIfInBounds_toArray, List.set_cons_zero, List.set_cons_succ]
  refine' hold_sole ?_ ?_ (fun K hK => ?_)
  rotate_left 1
  · simp only [List.getElem?_toArray, List.getElem?_cons_zero, List.getElem?_cons_succ]; exact rfl
  · exact rfl
  go_simp
  refine (seq_walk (Hcat.out _ HC.out) (Hcat.out _ HC.out)).mono ?_
  rintro e wf ⟨z4, rfl, hat, hb⟩
  refine hK _ _ (Hcw.out _ _ HC.out hb) ?_
  have HC := Lib.hid (Hcw.out _ _ HC.out hb)
  have A4 := Lib.hid hat
  have A3 := Lib.hid (NatsAt.below A3.out hb)
  clear hat
  clear hb
  clear hK K
  try simp only [Act.put, List.setIfInBounds_toArray, List.set_cons_zero, List.set_cons_succ]
  refine' hold_sole ?_ ?_ (fun K hK => ?_)
  rotate_left 1
  · simp only [List.getElem?_toArray, List.getElem?_cons_zero, List.getElem?_cons_succ]; exact rfl
  · exact rfl
  go_simp
  refine (ends_eq' A4.out (Hcl.out _ HC.out) 0 rfl).mono ?_
  rintro e wg ⟨v5, rfl, hat, hb⟩
  refine hK _ _ (Hcw.out _ _ HC.out hb) ?_
  have HC := Lib.hid (Hcw.out _ _ HC.out hb)
  have A5 := Lib.hid hat
  have A3 := Lib.hid (NatsAt.below A3.out hb)
  clear hat
  clear hb
  clear hK K
  try simp only [Act.put, List.setIfInBounds_toArray, List.set_cons_zero, List.set_cons_succ]
  refine' hold_sole ?_ ?_ (fun K hK => ?_)
  rotate_left 1
  · simp only [List.getElem?_toArray, List.getElem?_cons_zero, List.getElem?_cons_succ]; exact rfl
  · exact rfl
  go_simp
  refine (ints_eq A3.out A5.out (b := true) (by simp)).mono ?_
  rintro e wh ⟨rfl, hb⟩
  refine hK _ _ (Hcw.out _ _ HC.out hb) ?_
  have HC := Lib.hid (Hcw.out _ _ HC.out hb)
  clear hb
  clear hK K
  try simp only [Act.put, List.setIfInBounds_toArray, List.set_cons_zero, List.set_cons_succ]
  repeat (first
      | (refine' hold_skip ?_ ?_ ?_
         rotate_left 1
         · simp only [List.getElem?_toArray, List.getElem?_cons_zero, List.getElem?_cons_succ]; exact rfl
         · exact rfl
         simp only [Act.put, List.setIfInBounds_toArray, List.set_cons_zero, List.set_cons_succ])
      | (refine' hold_want ?_ ?_ (fun K hK => ?_)
         rotate_left 1
         · simp only [List.getElem?_toArray, List.getElem?_cons_zero, List.getElem?_cons_succ]; exact rfl
         · exact rfl
         first
         | (refine quiet_load_core _ rfl bz 0 _ rfl h7z ?_; refine hK _ ?_; clear hK K; try simp only [Act.put, List.setIfInBounds_toArray, List.set_cons_zero, List.set_cons_succ])
         | (go_big_quiet_op; refine hK _ ?_; clear hK K)))
  refine' hold_sole ?_ ?_ (fun K hK => ?_)
  rotate_left 1
  · simp only [List.getElem?_toArray, List.getElem?_cons_zero, List.getElem?_cons_succ]; exact rfl
  · exact rfl
  go_simp
  refine (null_eq (Hcat.out _ HC.out) E3.out).mono ?_
  rintro e wi ⟨rfl, hb⟩
  refine hK _ _ (Hcw.out _ _ HC.out hb) ?_
  have HC := Lib.hid (Hcw.out _ _ HC.out hb)
  clear hb
  clear hK K
  try simp only [Act.put, List.setIfInBounds_toArray, List.set_cons_zero, List.set_cons_succ]
  repeat (first
      | (refine' hold_skip ?_ ?_ ?_
         rotate_left 1
         · simp only [List.getElem?_toArray, List.getElem?_cons_zero, List.getElem?_cons_succ]; exact rfl
         · exact rfl
         simp only [Act.put, List.setIfInBounds_toArray, List.set_cons_zero, List.set_cons_succ])
      | (refine' hold_want ?_ ?_ (fun K hK => ?_)
         rotate_left 1
         · simp only [List.getElem?_toArray, List.getElem?_cons_zero, List.getElem?_cons_succ]; exact rfl
         · exact rfl
         first
         | (go_big_quiet_op; refine hK _ ?_; clear hK K)))
  refine hold_done ?_
  go_wp2_with fail
  go_ret
  exact ⟨rfl, Hcb.out _ HC.out⟩
end Go.Proofs.Ytobhjfhmhhahoaa
