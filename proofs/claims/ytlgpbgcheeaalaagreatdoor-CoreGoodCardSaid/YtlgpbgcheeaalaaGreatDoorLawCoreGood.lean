/- The walk of law 8's CoreGood. -/
import Derived.Test.YtlgpbgcheeaalaaGreatDoorCorePat
import Derived.Test.YtlgpbgcheeaalaaGreatDoorCoreForm
import Derived.Test.YtlgpbgcheeaalaaGreatDoorEager
namespace Go.Proofs.YtlgpbgcheeaalaaGreatDoor
open K
set_option maxRecDepth 100000
open Go.RowKit
theorem text_full {x : Cr} {cs : List Value} {w : World} (hat : Cr.at w x cs) (hg : goodC x = true) (hT : TabAt 0 Lib.deBruijn64tab w) :
    Calls Tryz.prog 12 #[.agg cs.toArray] w fun e w' => ∃ t : ByteArray, e = .returned (.string t) ∧ (t.toList == []) = false ∧ Below w.heap.size w w' :=
  (text_walk hat hT).mono fun _ _ h => by
    obtain ⟨⟨t, h1, h2⟩, h3⟩ := h
    refine ⟨t, h1, ?_, h3⟩
    have hne := text_some hg
    rw [← h2] at hne
    unfold nats at hne
    rw [Lib.toList_data]
    cases hd : t.data.toList with
    | nil => rw [hd] at hne; exact absurd rfl hne
    | cons a l => rfl
set_option maxHeartbeats 16000000 in
theorem coreGood_walk (a : ByteArray) (w : World) (hT : TabAt 0 Lib.deBruijn64tab w) (hM : MaxAt w) :
    Calls Tryz.prog 7 #[.string a] w fun e w' => e = .returned (.bool true) ∧ Below w.heap.size w w' := by
  have haw := awake8_any w hT hM
  have Haw := Lib.hid haw
  have HM := Lib.hid hM
  have HT := Lib.hid hT
  clear haw hT hM
  by_cases hla : 60 < a.size
  · have hd : decide ((a.size : Int) > 60) = true := by simp; omega
    have hd2 : decide ((60 : Int) < a.size) = true := by simp; omega
    go_enter Tryz.func7, Tryz.ntmps7
    go_wp2_with fail
    refine Haw.out.mono ?_
    rintro e w1 ⟨rfl, hb1⟩
    have Hb1 := Lib.hid hb1
    clear hb1
    go_wp2_with fail
    go_ret
    exact ⟨rfl, Hb1.out⟩
  have hd : decide ((a.size : Int) > 60) = false := by simp; omega
  have hd2 : decide ((60 : Int) < a.size) = false := by simp; omega
  clear hla
  have hpU := fun (w' : World) (hm : MaxAt w') => parse_any a w' hm
  obtain ⟨rU, hrU⟩ : ∃ r, r = ofP cls (nats a) := ⟨_, rfl⟩
  rw [← hrU] at hpU
  have HpU := Lib.hid hpU
  have HrU := Lib.hid hrU
  clear hpU hrU
  go_enter Tryz.func7, Tryz.ntmps7
  go_wp2_with fail
  refine Haw.out.mono ?_
  rintro e wA ⟨rfl, hbA⟩
  have HB_w_wA := Lib.hid (hbA)
  clear hbA Haw
  go_wp2_with fail
  refine (HpU.out wA (maxAt_below HM.out HB_w_wA.out)).mono ?_
  rintro e wU ⟨stU, enU, kU, sU, loU, hiU, nU, aU, lenU, capU, gU, mU, EU, rfl, hb', hr'⟩
  have HRU := hr'
  obtain ⟨WU, hWU⟩ : ∃ WU, WU = wU.alloc (.cells #[.bool stU, .bool enU, .int .i64 kU, .int .u64 (word sU 0), .int .u64 (word sU 1), .int .u64 (word sU 2), .int .u64 (word sU 3), .int .i64 loU, .int .i64 hiU, .int .i64 nU, .slice aU lenU capU, .int .i64 gU] 70) := ⟨_, rfl⟩
  have hal : Below wU.heap.size wU WU := by rw [hWU]; exact K.alloc_below wU _
  have HPU := Lib.hid (show PatIn WU wU.heap.size #[.bool stU, .bool enU, .int .i64 kU, .int .u64 (word sU 0), .int .u64 (word sU 1), .int .u64 (word sU 2), .int .u64 (word sU 3), .int .i64 loU, .int .i64 hiU, .int .i64 nU, .slice aU lenU capU, .int .i64 gU] from by rw [hWU]; exact pat_new wU _)
  have HAU := Lib.hid hal
  have HB_wA_WU := Lib.hid (hb'.trans (hal.mono hb'.size))
  have HB_w_WU := Lib.hid (HB_w_wA.out.trans (HB_wA_WU.out.mono HB_w_wA.out.size))
  clear hb' hr' hal
  go_upto_region 6 with fail
  rw [← hWU]
  clear hWU
  rcases hc' : rU with ⟨kk, e'⟩ | ⟨st', en', X0, cU⟩
  · rw [hc'] at HRU
    have he' : EU = e' := HRU.out
    have hz : ¬ EU = 0 := by rw [he']; exact of_err (HrU.out.symm.trans hc')
    have hne : (EU != 0) = true := by simpa using hz
    clear he' hz hc'
    go_wp2_with fail
    go_ret
    exact ⟨rfl, HB_w_WU.out⟩
  rw [hc'] at HRU
  have HCU := Lib.hid (HrU.out.symm.trans hc')
  obtain ⟨h1, h2, h3, h4, h5⟩ := HRU.out
  subst h1 h2 h3 h4
  have HATU := Lib.hid h5
  clear h5 HRU hc'
  have hgX := of_two (good_valid (of_good8 HCU.out))
  have hgoodP := of_good8 HCU.out
  have hofX := fun (w' : World) (h : Nd.at w' X0 [.int .i64 kU, .int .u64 (word sU 0), .int .u64 (word sU 1), .int .u64 (word sU 2), .int .u64 (word sU 3), .int .i64 loU, .int .i64 hiU, .int .i64 nU, .slice aU lenU capU]) => ofC_walk h
  generalize ofC X0 = cX' at hgX hofX
  obtain ⟨CX, FX⟩ := cX'
  simp only at hgX
  have HofX := Lib.hid hofX
  have HGX := Lib.hid hgX
  have HgP := Lib.hid hgoodP
  clear hofX hgX hgoodP
  go_wp2_with (first | (refine wpList_load_node rfl _ rfl wU.heap.size 2 _ rfl (node9_pat (pat_keep HPU.out (Below.refl _ _))) ?_) | fail)
  refine (HofX.out WU (Nd.at_below HAU.out (Nat.le_refl _) _ _ HATU.out)).mono ?_
  rintro e wP ⟨ds, rfl, hin, hb'⟩
  obtain ⟨kP, sP, nP, aP, lenP, capP, rfl⟩ := hin.lit
  have HIP := Lib.hid hin.at
  have HbP := Lib.hid hb'
  clear hin hb'
  rcases HGX.out with ⟨rfl, hcnt, rfl⟩ | ⟨rfl, _, _⟩
  rotate_left 1
  · go_wp2_with (first | (refine wpList_store_core rfl _ _ rfl wP.heap.size #[.int .i64 0, .int .u64 0, .int .u64 0, .int .u64 0, .int .u64 0, .int .i64 0, .slice none 0 0] #[.int .i64 kP, .int .u64 (word sP 0), .int .u64 (word sP 1), .int .u64 (word sP 2), .int .u64 (word sP 3), .int .i64 nP, .slice aP lenP capP] rfl rfl (World.alloc_heap_new wP _) rfl rfl (by simp [Value.oneCell']) ?_; intro WP hs ho; have HSP := Lib.hid hs; have hst := ho.below (K.alloc_below wP _) (Nat.le_refl _); have HIPw := Lib.hid (Cr.at_below hst (Nat.le_refl _) _ _ HIP.out); have HB_WU_WP := Lib.hid (HbP.out.trans (hst.mono HbP.out.size)); have HB_w_WP := Lib.hid (HB_w_WU.out.trans (HB_WU_WP.out.mono HB_w_WU.out.size)); have HB_wA_WP := Lib.hid (HB_wA_WU.out.trans (HB_WU_WP.out.mono HB_wA_WU.out.size)); clear hs ho hst) | fail)
    go_ret
    exact ⟨rfl, HB_w_WP.out⟩
  have hcg := core_good HgP.out hcnt
  have Hcg := Lib.hid hcg
  clear hcg
  go_upto_region 9 with (first | (refine wpList_store_core rfl _ _ rfl wP.heap.size #[.int .i64 0, .int .u64 0, .int .u64 0, .int .u64 0, .int .u64 0, .int .i64 0, .slice none 0 0] #[.int .i64 kP, .int .u64 (word sP 0), .int .u64 (word sP 1), .int .u64 (word sP 2), .int .u64 (word sP 3), .int .i64 nP, .slice aP lenP capP] rfl rfl (World.alloc_heap_new wP _) rfl rfl (by simp [Value.oneCell']) ?_; intro WP hs ho; have HSP := Lib.hid hs; have hst := ho.below (K.alloc_below wP _) (Nat.le_refl _); have HIPw := Lib.hid (Cr.at_below hst (Nat.le_refl _) _ _ HIP.out); have HB_WU_WP := Lib.hid (HbP.out.trans (hst.mono HbP.out.size)); have HB_w_WP := Lib.hid (HB_w_WU.out.trans (HB_WU_WP.out.mono HB_w_WU.out.size)); have HB_wA_WP := Lib.hid (HB_wA_WU.out.trans (HB_WU_WP.out.mono HB_wA_WU.out.size)); clear hs ho hst) | fail)
  obtain ⟨_, _, bU11⟩ := pat_cells8 (pat_keep HPU.out HB_WU_WP.out)
  have hgd := fun (w' : World) (hb : Below WP.heap.size WP w') => K.good_walk (Cr.at_below hb (Nat.le_refl _) _ _ HIPw.out)
  rw [Hcg.out.1] at hgd
  have hsz := fun (w' : World) (hb : Below WP.heap.size WP w') => K.size_walk (Cr.at_below hb (Nat.le_refl _) _ _ HIPw.out)
  have hgr := fun (w' : World) (hb : Below WP.heap.size WP w') => K.groups_walk (Cr.at_below hb (Nat.le_refl _) _ _ HIPw.out) Hcg.out.1
  have htx := fun (w' : World) (hb : Below WP.heap.size WP w') => text_full (Cr.at_below hb (Nat.le_refl _) _ _ HIPw.out) Hcg.out.1 (tab_below HT.out (HB_w_WP.out.trans (hb.mono HB_w_WP.out.size)) (tab_pos HT.out))
  have hle := Hcg.out.2
  obtain ⟨SP, hSP⟩ : ∃ z : Int, z = (sizeOfC (Nd.core X0) : Int) := ⟨_, rfl⟩
  rw [← hSP] at hsz
  have b1 : decide (SP ≤ 2000) = true := by rw [hSP]; unfold sizeOfC; simp; omega
  have b2 : decide ((2000 : Int) ≥ SP) = true := by rw [hSP]; unfold sizeOfC; simp; omega
  generalize groupsC (Nd.core X0) = GL at hgr hle
  have b3 : decide ((GL.length : Int) ≤ (cU : Int)) = true := by simpa using hle
  have b5 : decide (GL.length ≤ cU) = true := by simpa using hle
  have b4 : decide ((cU : Int) ≥ (GL.length : Int)) = true := by simpa using hle
  have Hgd := Lib.hid hgd
  have Hsz := Lib.hid hsz
  have Hgr := Lib.hid hgr
  have Htx := Lib.hid htx
  have h7P : ∀ w', (∃ L : Later WP, w' = L.val) → Core7 w' wP.heap.size 0 [.int .i64 kP, .int .u64 (word sP 0), .int .u64 (word sP 1), .int .u64 (word sP 2), .int .u64 (word sP 3), .int .i64 nP, .slice aP lenP capP] := fun w' hw' => by
    obtain ⟨L, rfl⟩ := hw'
    exact core7_in (core_later L.ok HSP.out) rfl
  have hlU : wU.heap.size < WP.heap.size := Nat.lt_of_lt_of_le (lt_of_block HPU.out) HB_WU_WP.out.size
  have cl11 : ∀ L : Later WP, L.val.cell? ⟨wU.heap.size, 11, none⟩ = some (.int .i64 (cU : Int)) := fun L => (L.cell ⟨wU.heap.size, 11, none⟩ hlU).trans bU11
  have hne := Later.nonempty WP
  obtain ⟨wd, hwd⟩ : ∃ wd, wd = WP.drew := ⟨_, rfl⟩
  have hcur : Below WP.heap.size WP wd := by rw [hwd]; exact drew_below WP
  clear hgd hsz hgr htx hSP hle hlU bU11 hcnt
  go_upto_region 11 with fail
  refine wp_region_eager (W0 := WP) (.plain 0 (.sole 1 (.plain 2 (.plain 3 (.sole 4 (.plain 5 (.plain 6 (.plain 7 (.plain 8 (.plain 11 (.plain 12 (.sole 9 (.plain 10 (.plain 13 (.plain 14 (.plain 15 (.plain 16 (.sole 17 (.plain 18 (.plain 19 (.plain 20 .done))))))))))))))))))))) (Below.refl _ _) (by kernel_rfl) (by kernel_rfl) (fun c a d v w h => by cases d <;> exact h) ?_
  rw [← hwd]
  clear hwd
  repeat (first
      | (refine' eager_skip ?_ ?_ ?_
         rotate_left 1
         · simp only [List.getElem?_toArray, List.getElem?_cons_zero]; exact rfl
         · exact rfl
         simp only [Act.put, List.setIfInBounds_toArray, List.set_cons_zero, List.set_cons_succ])
      | (refine' eager_want ?_ ?_ (fun K hK => ?_)
         rotate_left 1
         · simp only [List.getElem?_toArray, List.getElem?_cons_zero]; exact rfl
         · exact rfl
         first
         | (refine quiet_load_core _ rfl wP.heap.size 0 _ rfl h7P ?_; refine hK _ ?_; clear hK K; try simp only [Act.put, List.setIfInBounds_toArray, List.set_cons_zero, List.set_cons_succ])
         | (go_big_quiet_op; refine hK _ ?_; clear hK K)))
  refine' eager_call ?_ ?_ (fun K hK => ?_)
  rotate_left 1
  · simp only [List.getElem?_toArray, List.getElem?_cons_zero, List.getElem?_cons_succ]; exact rfl
  · exact rfl
  go_simp
  refine (Hgd.out _ hcur).mono ?_
  rintro e wn1 ⟨rfl, hb⟩
  refine hK _ _ hb ?_
  replace hcur := hcur.trans (hb.mono hcur.size)
  clear hb hK K
  try simp only [Act.put, List.setIfInBounds_toArray, List.set_cons_zero, List.set_cons_succ]
  repeat (first
      | (refine' eager_skip ?_ ?_ ?_
         rotate_left 1
         · simp only [List.getElem?_toArray, List.getElem?_cons_zero, List.getElem?_cons_succ]; exact rfl
         · exact rfl
         simp only [Act.put, List.setIfInBounds_toArray, List.set_cons_zero, List.set_cons_succ])
      | (refine' eager_want ?_ ?_ (fun K hK => ?_)
         rotate_left 1
         · simp only [List.getElem?_toArray, List.getElem?_cons_zero, List.getElem?_cons_succ]; exact rfl
         · exact rfl
         first
         | (refine quiet_load_core _ rfl wP.heap.size 0 _ rfl h7P ?_; refine hK _ ?_; clear hK K; try simp only [Act.put, List.setIfInBounds_toArray, List.set_cons_zero, List.set_cons_succ])
         | (go_big_quiet_op; refine hK _ ?_; clear hK K)))
  refine' eager_call ?_ ?_ (fun K hK => ?_)
  rotate_left 1
  · simp only [List.getElem?_toArray, List.getElem?_cons_zero, List.getElem?_cons_succ]; exact rfl
  · exact rfl
  go_simp
  refine (Hsz.out _ hcur).mono ?_
  rintro e wn2 ⟨rfl, hb⟩
  refine hK _ _ hb ?_
  replace hcur := hcur.trans (hb.mono hcur.size)
  clear hb hK K
  try simp only [Act.put, List.setIfInBounds_toArray, List.set_cons_zero, List.set_cons_succ]
  repeat (first
      | (refine' eager_skip ?_ ?_ ?_
         rotate_left 1
         · simp only [List.getElem?_toArray, List.getElem?_cons_zero, List.getElem?_cons_succ]; exact rfl
         · exact rfl
         simp only [Act.put, List.setIfInBounds_toArray, List.set_cons_zero, List.set_cons_succ])
      | (refine' eager_want ?_ ?_ (fun K hK => ?_)
         rotate_left 1
         · simp only [List.getElem?_toArray, List.getElem?_cons_zero, List.getElem?_cons_succ]; exact rfl
         · exact rfl
         first
         | (refine quiet_load_core _ rfl wP.heap.size 0 _ rfl h7P ?_; refine hK _ ?_; clear hK K; try simp only [Act.put, List.setIfInBounds_toArray, List.set_cons_zero, List.set_cons_succ])
         | (go_big_quiet_op; refine hK _ ?_; clear hK K)))
  refine' eager_call ?_ ?_ (fun K hK => ?_)
  rotate_left 1
  · simp only [List.getElem?_toArray, List.getElem?_cons_zero, List.getElem?_cons_succ]; exact rfl
  · exact rfl
  go_simp
  refine (Hgr.out _ hcur).mono ?_
  rintro e wn3 ⟨ag, capg, rfl, _, hb⟩
  refine hK _ _ hb ?_
  replace hcur := hcur.trans (hb.mono hcur.size)
  clear hb hK K
  try simp only [Act.put, List.setIfInBounds_toArray, List.set_cons_zero, List.set_cons_succ]
  repeat (first
      | (refine' eager_skip ?_ ?_ ?_
         rotate_left 1
         · simp only [List.getElem?_toArray, List.getElem?_cons_zero, List.getElem?_cons_succ]; exact rfl
         · exact rfl
         simp only [Act.put, List.setIfInBounds_toArray, List.set_cons_zero, List.set_cons_succ])
      | (refine' eager_want ?_ ?_ (fun K hK => ?_)
         rotate_left 1
         · simp only [List.getElem?_toArray, List.getElem?_cons_zero, List.getElem?_cons_succ]; exact rfl
         · exact rfl
         first
         | (refine quiet_load_core _ rfl wP.heap.size 0 _ rfl h7P ?_; refine hK _ ?_; clear hK K; try simp only [Act.put, List.setIfInBounds_toArray, List.set_cons_zero, List.set_cons_succ])
         | (go_big_quiet_op; refine hK _ ?_; clear hK K)))
  refine' eager_call ?_ ?_ (fun K hK => ?_)
  rotate_left 1
  · simp only [List.getElem?_toArray, List.getElem?_cons_zero, List.getElem?_cons_succ]; exact rfl
  · exact rfl
  go_simp
  refine (Htx.out _ hcur).mono ?_
  rintro e wn4 ⟨tx, rfl, htx1, hb⟩
  refine hK _ _ hb ?_
  replace hcur := hcur.trans (hb.mono hcur.size)
  clear hb hK K
  try simp only [Act.put, List.setIfInBounds_toArray, List.set_cons_zero, List.set_cons_succ]
  have htx2 : (tx.toList != []) = true := by simp [bne, htx1]
  repeat (first
      | (refine' eager_skip ?_ ?_ ?_
         rotate_left 1
         · simp only [List.getElem?_toArray, List.getElem?_cons_zero, List.getElem?_cons_succ]; exact rfl
         · exact rfl
         simp only [Act.put, List.setIfInBounds_toArray, List.set_cons_zero, List.set_cons_succ])
      | (refine' eager_want ?_ ?_ (fun K hK => ?_)
         rotate_left 1
         · simp only [List.getElem?_toArray, List.getElem?_cons_zero, List.getElem?_cons_succ]; exact rfl
         · exact rfl
         first
         | (refine quiet_load_core _ rfl wP.heap.size 0 _ rfl h7P ?_; refine hK _ ?_; clear hK K; try simp only [Act.put, List.setIfInBounds_toArray, List.set_cons_zero, List.set_cons_succ])
         | (go_big_quiet_op; refine hK _ ?_; clear hK K)))
  refine eager_done ?_
  have Hfin := Lib.hid (HB_w_WP.out.trans (hcur.mono HB_w_WP.out.size))
  clear hcur h7P cl11
  go_wp2_with fail
  go_ret
  exact ⟨rfl, Hfin.out⟩
end Go.Proofs.YtlgpbgcheeaalaaGreatDoor
