/- The walk of the law on texts in heads: put in heads again they are the same; what a set has of them stays. -/
import Derived.Test.YtnhlopbpggdneaaDoorBlockFacts
import Derived.Test.YtnhlopbpggdneaaDoorBlockAwake
import Derived.Test.YtnhlopbpggdneaaDoorEager
namespace Go.Proofs.YtnhlopbpggdneaaDoor
open Go.RowKit

theorem bytes_cell {w : World} {a : Option Addr} {n cap : Nat} {l : List Nat} (h : BytesAt w a n cap l) (j : Nat) (hj : j < n) : ∃ b off, a = some ⟨b, off, none⟩ ∧ n ≤ cap ∧ b < w.heap.size ∧ w.cell? ⟨b, off + j, none⟩ = some (.int .u8 (l.getD j 0 : Nat)) := by
  obtain ⟨_, _, _, h0 | ⟨b, off, h1, h2, h3, h4⟩⟩ := h
  · omega
  · exact ⟨b, off, h1, h2, h3, h4 j hj⟩
theorem str_ne (l : List UInt8) : (!(l == l)) = false := by simp
set_option maxHeartbeats 4000000 in
theorem blockMaps_walk (a : Option Addr) (n cap : Nat) (L : List (BitVec 256)) (a' : Option Addr) (n' cap' : Nat) (l : List Nat) (w : World) (hl : SetsAt w a n cap L) (hs : BytesAt w a' n' cap' l) (hT : TabAt 0 Lib.deBruijn64tab w) :
    Calls Tryd.prog 7 #[.slice a n cap, .slice a' n' cap'] w fun e w' => e = .returned (.bool true) ∧ Below w.heap.size w w' := by
  obtain ⟨hnl, hmax, hcells⟩ := hl
  obtain ⟨hnl', hlt, hmax', hcells'⟩ := hs
  have hl : SetsAt w a n cap L := ⟨hnl, hmax, hcells⟩
  have hs : BytesAt w a' n' cap' l := ⟨hnl', hlt, hmax', hcells'⟩
  unfold maxLen at hmax hmax'
  clear hcells hcells'
  have Hnl := Lib.hid hnl
  have Hnl' := Lib.hid hnl'
  clear hnl hnl'
  go_enter Tryd.func7, Tryd.ntmps7
  go_wp2_with fail
  refine (awake_any _ hT).mono ?_
  rintro e w1 ⟨rfl, hb1⟩
  have hT1 := tab_below hT hb1 (tab_pos hT)
  have hl1 := hl.below hb1 rfl
  have hs1 := bytes_keep hs hb1
  by_cases hbig : 10 < n
  · have hd : decide ((10 : Int) < n) = true := by simp; omega
    go_wp2_with fail
    go_ret
    exact ⟨rfl, hb1⟩
  · have hd : decide ((10 : Int) < n) = false := by simp; omega
    by_cases hbig' : 60 < n'
    · have hd' : decide ((60 : Int) < n') = true := by simp; omega
      go_wp2_with fail
      go_ret
      exact ⟨rfl, hb1⟩
    · have hd' : decide ((60 : Int) < n') = false := by simp; omega
      go_wp2_with fail
      refine (blockOf_any a n cap L w1 hl1 hT1).mono ?_
      rintro e w2 ⟨pa, pcap, rfl, hp, hb2, hoff⟩
      have hT2 := tab_below hT1 hb2 (tab_pos hT1)
      have hbw2 := hb1.trans (hb2.mono hb1.size)
      have hs2 := bytes_keep hs1 hb2
      have hmap := listAt_of_row (map_any pa _ pcap (partsOf L) a' n' cap' l w2 hp hs2 (by omega) hT2) (by rw [heads_map L l hlt]; exact rep_lt L l hlt)
      rw [heads_map L l hlt] at hmap
      go_wp2_with fail
      refine hmap.mono ?_
      rintro e w3 ⟨ma, mcap, rfl, hb3, hm⟩
      obtain ⟨R, hR⟩ : ∃ R, R = l.map (rep L) := ⟨_, rfl⟩
      have hRl : R.length = n' := by rw [hR, List.length_map]; exact Hnl'.out.symm
      have hRlt : ∀ y ∈ R, y < 256 := by rw [hR]; exact rep_lt L l hlt
      have hRat : ∀ j, j < n' → R.getD j 0 = rep L (l.getD j 0) := fun j hj => by
        have hj' : j < l.length := by rw [← Hnl'.out]; exact hj
        rw [hR, getD_at _ j _ (by rw [List.length_map]; exact hj'), List.getElem_map, getD_at l j 0 hj']
      rw [← hR] at hm
      rw [← hR]
      rw [hRl] at hm
      have hmap2 := fun wn (h : Below w3.heap.size w3 wn) hT => listAt_of_row (map_any pa _ pcap (partsOf L) ma n' mcap R wn (hp.below (hb3.trans (h.mono hb3.size)) rfl) (hm wn h) (by omega) hT) (by rw [heads_map L R hRlt]; exact rep_lt L R hRlt)
      have hRR : R.map (headOf (partsOf L)) = R := by rw [heads_map L R hRlt, hR]; exact rep_twice L l hlt
      simp only [hRR] at hmap2
      have hT3 := tab_below hT2 hb3 (tab_pos hT2)
      have hbw3 := hbw2.trans (hb3.mono hbw2.size)
      have hl3 := (hl1.below hb2 rfl).below hb3 rfl
      have hs3 := bytes_keep hs2 hb3
      have HRl := Lib.hid hRl
      have HRat := Lib.hid hRat
      have Hlt := Lib.hid hlt
      have Hm := Lib.hid hm
      have hstr := str_ne (toBytes R)
      have hbm : ∀ w', (∃ L : Later w3, w' = L.val) → BytesAt w' ma n' mcap R := fun w' hw' => by obtain ⟨L', rfl⟩ := hw'; exact hm L'.val L'.ok
      rw [hRl]
      clear hR hRl hRR hRlt hRat hmap hl hs hl1 hs1 hs2 hb1 hb2 hb3 hp hlt hm hT1 hT2 hbw2
      generalize (partsOf L).length = pn at *
      go_wp2_with fail
      have hne := Later.nonempty w3
      refine wp_region_eager (.plain 0 (.plain 1 (.plain 4 (.plain 5 (.sole 2 (.plain 3 (.plain 6 (.plain 7 (.plain 8 (.plain 9 (.plain 10 (.plain 11 (.plain 12 (.plain 13 .done)))))))))))))) (W0 := w3) (Below.refl _ _) (by kernel_rfl) (by kernel_rfl) (fun c a d v w h => by cases d <;> exact h) ?_
      have hTc := tab_drew hT3
      have hcur := (Below.refl w3.heap.size w3).drew
      repeat (first
          | (refine' eager_skip ?_ ?_ ?_
             rotate_left 1
             · simp only [List.getElem?_toArray, List.getElem?_cons_zero, List.getElem?_cons_succ]; exact rfl
             · exact rfl
             simp only [Act.put, List.setIfInBounds_toArray, List.set_cons_zero, List.set_cons_succ])
          | (refine' eager_want ?_ ?_ (fun K hK => ?_)
             rotate_left 1
             · simp only [List.getElem?_toArray, List.getElem?_cons_zero, List.getElem?_cons_succ]; exact rfl
             · exact rfl
             first
             | (go_big_quiet_op; refine hK _ ?_; clear hK K)))
      refine' eager_want ?_ ?_ (fun K hK => ?_)
      rotate_left 1
      · simp only [List.getElem?_toArray, List.getElem?_cons_zero, List.getElem?_cons_succ]; exact rfl
      · exact rfl
      refine quiet_string _ rfl _ _ _ rfl R hbm ?_
      refine hK _ ?_
      clear hK K
      try simp only [Act.put, List.setIfInBounds_toArray, List.set_cons_zero, List.set_cons_succ]
      refine' eager_call_new ?_ ?_ (fun K hK => ?_)
      rotate_left 1
      · simp only [List.getElem?_toArray, List.getElem?_cons_zero, List.getElem?_cons_succ]; exact rfl
      · exact rfl
      go_simp
      refine (hmap2 _ hcur hTc).mono ?_
      rintro e wn ⟨la, lcap, rfl, hb, hlist⟩
      refine hK _ _ hb ?_
      replace hTc := tab_below hTc hb (tab_pos hTc)
      replace hcur := hcur.trans (hb.mono hcur.size)
      have hne' := Later.nonempty wn
      have hbs : ∀ w', (∃ L : Later wn, w' = L.val) → BytesAt w' la n' lcap R := fun w' hw' => by obtain ⟨L', rfl⟩ := hw'; have := hlist L'.val L'.ok; rwa [HRl.out] at this
      clear hb hK K
      try simp only [Act.put, List.setIfInBounds_toArray, List.set_cons_zero, List.set_cons_succ]
      simp only [HRl.out]
      refine' eager_want ?_ ?_ (fun K hK => ?_)
      rotate_left 1
      · simp only [List.getElem?_toArray, List.getElem?_cons_zero, List.getElem?_cons_succ]; exact rfl
      · exact rfl
      refine quiet_string _ rfl _ _ _ rfl R hbs ?_
      refine hK _ ?_
      clear hK K
      try simp only [Act.put, List.setIfInBounds_toArray, List.set_cons_zero, List.set_cons_succ]
      repeat (first
          | (refine' eager_skip ?_ ?_ ?_
             rotate_left 1
             · simp only [List.getElem?_toArray, List.getElem?_cons_zero, List.getElem?_cons_succ]; exact rfl
             · exact rfl
             simp only [Act.put, List.setIfInBounds_toArray, List.set_cons_zero, List.set_cons_succ])
          | (refine' eager_want ?_ ?_ (fun K hK => ?_)
             rotate_left 1
             · simp only [List.getElem?_toArray, List.getElem?_cons_zero, List.getElem?_cons_succ]; exact rfl
             · exact rfl
             first
             | (go_big_quiet_op; refine hK _ ?_; clear hK K)))
      refine eager_done ?_
      clear hbs hbm hlist hmap2
      have hl4 := hl3.below hcur rfl
      have hs4 := bytes_keep hs3 hcur
      have hm4 := Hm.out wn hcur
      have hbw4 := hbw3.trans (hcur.mono hbw3.size)
      have hne4 := Later.nonempty wn
      have Hl4 := Lib.hid hl4
      have Hs4 := Lib.hid hs4
      have Hm4 := Lib.hid hm4
      clear hl3 hs3 Hm hcur hTc hl4 hs4 hm4 hbw3 hne hne'
      generalize wn = w4 at *
      go_wp2_with fail
      go_loopw [7] (fun i wr => ∃ j : Nat, j ≤ n' ∧ i = .int .i64 j ∧ Below w4.heap.size w4 wr) (fun i _ => n' - (intOf i).toNat)
      case atStart => exact ⟨0, by omega, rfl, Below.refl _ _⟩
      case round =>
        obtain ⟨j, hj, rfl, hr⟩ := hrel
        by_cases hjn : j < n'
        · have hd : decide ((j : Int) < n') = true := by simp; omega
          go_wp2_with fail
          go_loopw [8] (fun i wr => ∃ k : Nat, k ≤ n ∧ i = .int .i64 k ∧ Below w4.heap.size w4 wr) (fun i _ => n - (intOf i).toNat)
          case atStart => exact ⟨0, by omega, rfl, hr⟩
          case round =>
            clear hr
            obtain ⟨k, hk, rfl, hr⟩ := hrel
            by_cases hkn : k < n
            · have hd : decide ((k : Int) < n) = true := by simp; omega
              obtain ⟨b1, o1, rfl, hc1, hz1, hx1⟩ := bytes_cell Hs4.out j hjn
              obtain ⟨b2, o2, rfl, hc2, hz2, hx2⟩ := bytes_cell Hm4.out j hjn
              have hkl : k < L.length := by rw [← Hnl.out]; exact hkn
              have hxl : l.getD j 0 < 256 := by rw [getD_at l j 0 (by rw [← Hnl'.out]; exact hjn)]; exact Hlt.out _ (List.getElem_mem _)
              have hyl : R.getD j 0 < 256 := by rw [HRat.out j hjn]; exact (rep_facts L _ hxl).1
              have hxy := rep_has L k (l.getD j 0) hkl hxl
              rw [← HRat.out j hjn] at hxy
              obtain ⟨x, hx⟩ : ∃ x, x = l.getD j 0 := ⟨_, rfl⟩
              obtain ⟨y, hy⟩ : ∃ y, y = R.getD j 0 := ⟨_, rfl⟩
              obtain ⟨s, hs⟩ : ∃ s, s = L.getD k 0 := ⟨_, rfl⟩
              obtain ⟨_, _, hcells⟩ := Hl4.out
              rcases hcells with h0 | ⟨bb, off, rfl, hcap, hbw, hcells⟩
              · omega
              · have hbr : bb < wr.heap.size := by have := hr.size; omega
                have hz1' : b1 < wr.heap.size := by have := hr.size; omega
                have hz2' : b2 < wr.heap.size := by have := hr.size; omega
                have hc : ∀ w', (∃ L : Later wr, w' = L.val) → Set4 w' bb (off + k * 4) s := fun w' hw' => by
                  obtain ⟨L', rfl⟩ := hw'; rw [hs]; exact ((hcells k hkn).below hr hbw).below L'.ok hbr
                rw [← hx] at hx1 hxl hxy
                rw [← hy] at hx2 hyl hxy
                rw [← hs] at hxy
                have g1 : ∀ L : Later wr, L.val.cell? ⟨b1, o1 + j, none⟩ = some (.int .u8 (x : Int)) := fun L' => by rw [(hr.trans (L'.ok.mono hr.size)).cell (p := ⟨b1, o1 + j, none⟩) hz1]; exact hx1
                have g2 : ∀ L : Later wr, L.val.cell? ⟨b2, o2 + j, none⟩ = some (.int .u8 (y : Int)) := fun L' => by rw [(hr.trans (L'.ok.mono hr.size)).cell (p := ⟨b2, o2 + j, none⟩) hz2]; exact hx2
                have hasx := has_any s x hxl
                have hasy := has_any s y hyl
                rw [hxy] at hasy
                generalize s.getLsbD x = v at *
                have hne := Later.nonempty wr
                clear hx1 hx2 hcells hxl hyl hxy hx hy hs hne4
                go_wp2_with fail
                refine wp_region_later (W0 := wr) (Below.refl _ _) (by kernel_rfl) (by as_aux_lemma => kernel_rfl) ?_
                iterate 3 (go_big_quiet_step (fail))
                go_big_quiet_want
                refine quiet_load_set _ rfl bb (off + k * 4) s rfl hc ?_
                go_big_quiet_on
                simp only [Act.put, List.setIfInBounds_toArray, List.set_cons_zero, List.set_cons_succ]
                iterate 5 (go_big_quiet_step (exact Later.calls (hasx _)))
                iterate 3 (go_big_quiet_step (fail))
                go_big_quiet_want
                refine quiet_load_set _ rfl bb (off + k * 4) s rfl hc ?_
                go_big_quiet_on
                simp only [Act.put, List.setIfInBounds_toArray, List.set_cons_zero, List.set_cons_succ]
                iterate 5 (go_big_quiet_step (exact Later.calls (hasy _)))
                repeat (go_big_quiet_step (fail))
                refine wpQuiet_nil ?_
                intro w' hw'
                obtain ⟨L', rfl⟩ := hw'
                have h5 := hr.trans (L'.ok.mono hr.size)
                go_wp2_with fail
                go_roundw
                case rel => exact ⟨k + 1, by omega, by go_num, h5⟩
                case measure => simp [intOf]; omega
            · obtain rfl : k = n := by omega
              have hd : decide ((k : Int) < k) = false := by simp
              go_wp2_with fail
              go_roundw
              case rel => exact ⟨j + 1, by omega, by go_num, hr⟩
              case measure => simp [intOf]; omega
        · obtain rfl : j = n' := by omega
          have hd : decide ((j : Int) < j) = false := by simp
          go_wp2_with fail
          go_ret
          exact ⟨rfl, hbw4.trans (hr.mono hbw4.size)⟩
end Go.Proofs.YtnhlopbpggdneaaDoor
