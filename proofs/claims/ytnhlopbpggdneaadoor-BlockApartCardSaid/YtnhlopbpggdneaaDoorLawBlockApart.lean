/- The walk of the law on what a part is: two bytes lie in one part just if no set tells them apart; the parts hold all bytes, each once. -/
import Derived.Test.YtnhlopbpggdneaaDoorBlockFacts
import Derived.Test.YtnhlopbpggdneaaDoorBlockAwake
import Derived.Test.YtnhlopbpggdneaaDoorFree
namespace Go.Proofs.YtnhlopbpggdneaaDoor
open Go.RowKit

set_option maxHeartbeats 4000000 in
theorem blockApart_walk (a : Option Addr) (n cap : Nat) (L : List (BitVec 256)) (x : Nat) (hx : x < 256) (y : Nat) (hy : y < 256) (w : World) (hl : SetsAt w a n cap L) (hT : TabAt 0 Lib.deBruijn64tab w) :
    Calls Tryd.prog 5 #[.slice a n cap, .int .u8 x, .int .u8 y] w fun e w' => e = .returned (.bool true) ∧ Below w.heap.size w w' := by
  obtain ⟨x1, x2, x3, _⟩ := find_part L x hx
  obtain ⟨y1, y2, y3, _⟩ := find_part L y hy
  have hsame := find_same L x y hx hy
  go_enter Tryd.func5, Tryd.ntmps5
  go_wp2_with fail
  refine (awake_any _ hT).mono ?_
  rintro e w1 ⟨rfl, hb1⟩
  have hT1 := tab_below hT hb1 (tab_pos hT)
  have hl1 := hl.below hb1 rfl
  by_cases hbig : 12 < n
  · have hd : decide ((12 : Int) < n) = true := by simp; omega
    go_wp2_with fail
    go_ret
    exact ⟨rfl, hb1⟩
  · have hd : decide ((12 : Int) < n) = false := by simp; omega
    go_wp2_with fail
    refine (blockOf_any a n cap L w1 hl1 hT1).mono ?_
    rintro e w2 ⟨pa, pcap, rfl, hp, hb2, hoff⟩
    have hT2 := tab_below hT1 hb2 (tab_pos hT1)
    have hbw2 := hb1.trans (hb2.mono hb1.size)
    have hfx := fun w3 (h : Below w2.heap.size w2 w3) => find_any pa (partsOf L).length pcap (partsOf L) x hx w3 (hp.below h rfl)
    have hfy := fun w3 (h : Below w2.heap.size w2 w3) => find_any pa (partsOf L).length pcap (partsOf L) y hy w3 (hp.below h rfl)
    simp only [x1] at hfx
    simp only [y1] at hfy
    have hl2 := hl1.below hb2 (by have := hl1; rfl)
    generalize hi : findAt (partsOf L) x = i at *
    generalize hj : findAt (partsOf L) y = j at *
    clear x1 y1 x3 y3 hi hj hb1 hb2
    go_wp2_with fail
    refine (hfx w2 (Below.refl _ _)).mono ?_
    rintro e w3 ⟨rfl, hb3⟩
    go_wp2_with fail
    refine (hfy w3 hb3).mono ?_
    rintro e w4 ⟨rfl, hb4⟩
    have h24 := hb3.trans (hb4.mono hb3.size)
    clear hb3 hb4 hfx hfy
    have hl4 := hl2.below h24 rfl
    obtain ⟨hn, hmax, hcells⟩ := hl4
    have Hn := Lib.hid hn
    unfold maxLen at hmax
    have hbw4 := hbw2.trans (h24.mono hbw2.size)
    clear hn hl hl1 hl2 hT1
    go_wp2_with fail
    go_loopw [12, 13] (fun v i wr => ∃ k : Nat, k ≤ n ∧ i = .int .i64 k ∧ v = .bool (same (L.take k) x y) ∧ Below w4.heap.size w4 wr) (fun _ i _ => n - (intOf i).toNat)
    case atStart => exact ⟨0, by omega, rfl, rfl, Below.refl _ _⟩
    case round =>
      obtain ⟨k, hk, rfl, rfl, hr⟩ := hrel
      by_cases hkn : k < n
      · rcases hcells with h0 | ⟨bb, off, rfl, hcap, hbw, hcells⟩
        · omega
        · have hd : decide ((k : Int) < n) = true := by simp; omega
          have hst := Lib.hid (same_take_succ L k x y (by rw [← Hn.out]; exact hkn))
          obtain ⟨s, hs⟩ : ∃ s, s = L.getD k 0 := ⟨_, rfl⟩
          have hbr : bb < wr.heap.size := by have := hr.size; omega
          have hc : ∀ w', (∃ L : Later wr, w' = L.val) → Set4 w' bb (off + k * 4) s := fun w' hw' => by
            obtain ⟨L, rfl⟩ := hw'; rw [hs]; exact ((hcells k hkn).below hr hbw).below L.ok hbr
          rw [← hs] at hst
          clear hs hcells
          have hne := Later.nonempty wr
          cases hv : same (L.take k) x y
          · rw [hv] at hst
            go_wp2_with fail
            refine wp_region_later (W0 := wr) (Below.refl _ _) (by kernel_rfl) (by as_aux_lemma => kernel_rfl) ?_
            repeat (go_big_quiet_step (fail))
            refine wpQuiet_nil ?_
            intro w' hw'
            obtain ⟨L', rfl⟩ := hw'
            have h5 := hr.trans (L'.ok.mono hr.size)
            go_wp2_with fail
            go_roundw
            case rel => exact ⟨k + 1, by omega, by go_num, by rw [hst.out]; rfl, h5⟩
            case measure => simp [intOf]; omega
          · rw [hv] at hst
            go_wp2_with fail
            refine wp_region_later (W0 := wr) (Below.refl _ _) (by kernel_rfl) (by as_aux_lemma => kernel_rfl) ?_
            iterate 5 (go_big_quiet_step (fail))
            go_big_quiet_want
            refine quiet_load_set _ rfl bb (off + k * 4) s rfl hc ?_
            go_big_quiet_on
            simp only [Act.put, List.setIfInBounds_toArray, List.set_cons_zero, List.set_cons_succ]
            iterate 2 (go_big_quiet_step (exact Later.calls (has_any s x hx _)))
            iterate 3 (go_big_quiet_step (fail))
            go_big_quiet_want
            refine quiet_load_set _ rfl bb (off + k * 4) s rfl hc ?_
            go_big_quiet_on
            simp only [Act.put, List.setIfInBounds_toArray, List.set_cons_zero, List.set_cons_succ]
            iterate 2 (go_big_quiet_step (exact Later.calls (has_any s y hy _)))
            repeat (go_big_quiet_step (fail))
            refine wpQuiet_nil ?_
            intro w' hw'
            obtain ⟨L', rfl⟩ := hw'
            have h5 := hr.trans (L'.ok.mono hr.size)
            go_wp2_with fail
            go_roundw
            case rel => exact ⟨k + 1, by omega, by go_num, by rw [hst.out]; rfl, h5⟩
            case measure => simp [intOf]; omega
      · obtain rfl : k = n := by omega
        have hd : decide ((k : Int) < k) = false := by simp
        have ht : L.take k = L := List.take_of_length_le (by rw [Hn.out]; exact Nat.le_refl _)
        rw [ht]
        have hbr := hbw4.trans (hr.mono hbw4.size)
        have h2r := h24.trans (hr.mono h24.size)
        clear hcells ht hr hbw4 h24
        have hof := fun w => of_any none 0 0 [] w ⟨rfl, by simp, by decide, .inl rfl⟩
        have hE : setOf [] = unionOf ((partsOf L).take 0) := rfl
        have hE0 : sizesOf ((partsOf L).take 0) = 0 := rfl
        rw [hE] at hof
        generalize same L x y = v12 at *
        go_wp2_with (first
          | (go_at_call 12; refine (hof _).mono ?_; rintro e w5 ⟨rfl, hb5⟩)
          | (refine wpList_store_set rfl _ _ rfl w5.heap.size 0 _ rfl rfl (setAt_new _) ?_; intro w6 hs6 ho6))
        have h26 := ho6.below ((h2r.trans (hb5.mono h2r.size)).alloc (by have := hb5.size; have := h2r.size; omega) _) (by have := hb5.size; have := h2r.size; omega)
        have hbw6 := hbw2.trans (h26.mono hbw2.size)
        have hg6 : w2.heap.size ≤ w5.heap.size := by have := hb5.size; have := h2r.size; omega
        have hU := union_all L
        have hS := sizes_all L
        have hml := parts_le L
        have hle := sizes_le L
        clear hbr h2r hb5 ho6 hof
        generalize w5.heap.size = g at *
        generalize hP : partsOf L = M at *
        go_loopw [15, 16] (fun v i wr => ∃ k : Nat, k ≤ M.length ∧ i = .int .i64 k ∧ v = .int .i64 (sizesOf (M.take k)) ∧ SetAt wr g (unionOf (M.take k)) ∧ Below w2.heap.size w2 wr) (fun _ i _ => M.length - (intOf i).toNat)
        case atStart => exact ⟨0, by omega, rfl, rfl, hs6, h26⟩
        case round =>
          obtain ⟨k, hk, rfl, rfl, hg, hr⟩ := hrel
          by_cases hkl : k < M.length
          · obtain ⟨g', rfl, hcap', _, hg', hcp⟩ := sets_open hp hoff (by omega)
            have hc := (hcp k hkl).below hr hg'
            have hd : decide ((k : Int) < M.length) = true := by simp; omega
            obtain ⟨s, hs⟩ : ∃ s, s = M.getD k 0 := ⟨_, rfl⟩
            have hU' : unionOf (M.take (k + 1)) = unionOf (M.take k) ||| s := by rw [List.take_succ_eq_append_getElem hkl, unionOf_snoc, hs, getD_at M k 0 hkl]
            have hS' : sizesOf (M.take (k + 1)) = sizesOf (M.take k) + (elems s).length := by rw [List.take_succ_eq_append_getElem hkl, sizesOf_snoc, hs, getD_at M k 0 hkl]
            have hle' := hle (k + 1) (by omega)
            rw [hS'] at hle'
            rw [← hs] at hc
            have HU := Lib.hid hU'
            have HS := Lib.hid hS'
            clear hcp hs hU' hS' hle hU hS hp
            generalize unionOf (M.take k) = U at *
            generalize sizesOf (M.take k) = z at *
            have hbr := setAt_lt hg
            have hbr' : g' < wr.heap.size := by have := hr.size; omega
            go_wp2_with fail
            refine wp_region_free (.plain 1 (.plain 2 (.plain 3 (.fork 0 (.sole 4 (.sole 5 (.sole 6 .done))) 4 (.sole 0 (.sole 5 (.sole 6 .done))))))) (by kernel_rfl) (by kernel_rfl) (fun c a d v w h => by cases d <;> exact h) ?_
            have hgd := setAt_drew hg
            have hcd : Set4 wr.drew g' (k * 4) s := hc
            have hrd := hr.drew
            have hbd : g < wr.drew.heap.size := hbr
            have hbd' : g' < wr.drew.heap.size := hbr'
            generalize wr.drew = wd at *
            clear hg hc hr hbr hbr'
            iterate 3
              refine' free_plain ?_ ?_ (fun K hK => ?_)
              rotate_left 1
              · simp only [List.getElem?_toArray, List.getElem?_cons_zero, List.getElem?_cons_succ]; exact rfl
              · exact rfl
              go_big_quiet_op
              refine hK _ ?_
              clear hK K
            refine free_fork ?_ ?_
            · refine' free_step ?_ ?_ (fun K hK => ?_)
              rotate_left 1
              · simp only [List.getElem?_toArray, List.getElem?_cons_zero, List.getElem?_cons_succ]; exact rfl
              · exact rfl
              refine wp_load_set _ rfl g 0 U rfl hgd.four ?_
              refine hK _ _ ?_
              clear hK K
              try simp only [Act.put, List.setIfInBounds_toArray, List.set_cons_zero, List.set_cons_succ]
              refine' free_sole ?_ ?_ (fun K hK => ?_)
              rotate_left 1
              · simp only [List.getElem?_toArray, List.getElem?_cons_zero, List.getElem?_cons_succ]; exact rfl
              · exact rfl
              refine wp_load_set _ rfl g' (k * 4) s rfl hcd ?_
              refine hK _ _ ?_
              clear hK K
              try simp only [Act.put, List.setIfInBounds_toArray, List.set_cons_zero, List.set_cons_succ]
              refine' free_sole ?_ ?_ (fun K hK => ?_)
              rotate_left 1
              · simp only [List.getElem?_toArray, List.getElem?_cons_zero, List.getElem?_cons_succ]; exact rfl
              · exact rfl
              go_simp
              refine (or_any _ _ _).mono ?_
              rintro e w7 ⟨rfl, hb7⟩
              refine hK _ _ ?_
              have hg7 := setAt_below hgd hb7 hbd
              have hc7 := hcd.below hb7 hbd'
              have hr7 := hrd.trans (hb7.mono hrd.size)
              clear hK K
              try simp only [Act.put, List.setIfInBounds_toArray, List.set_cons_zero, List.set_cons_succ]
              refine' free_sole ?_ ?_ (fun K hK => ?_)
              rotate_left 1
              · simp only [List.getElem?_toArray, List.getElem?_cons_zero, List.getElem?_cons_succ]; exact rfl
              · exact rfl
              refine wp_store_set _ _ rfl g _ _ rfl rfl hg7 ?_
              intro w8 hs8 ho8
              refine hK _ _ ?_
              have hc8 : Set4 w8 g' (k * 4) s := fun q hq => by rw [ho8.cell (by show g' ≠ g; omega)]; exact hc7 q hq
              have hr8 := ho8.below hr7 hg6
              clear hK K
              try simp only [Act.put, List.setIfInBounds_toArray, List.set_cons_zero, List.set_cons_succ]
              refine free_done ?_
              go_wp2_with (first
                | (refine wpList_load_set rfl _ rfl g' (k * 4) s rfl hc8 ?_)
                | (go_at_call 21; refine (len_any s _).mono ?_; rintro e w9 ⟨rfl, hb9⟩))
              go_roundw
              case rel => exact ⟨k + 1, by omega, by go_num, by rw [HS.out]; go_num, by rw [HU.out]; exact setAt_below hs8 hb9 (setAt_lt hs8), hr8.trans (hb9.mono hr8.size)⟩
              case measure => simp [intOf]; omega
            · refine' free_step ?_ ?_ (fun K hK => ?_)
              rotate_left 1
              · simp only [List.getElem?_toArray, List.getElem?_cons_zero, List.getElem?_cons_succ]; exact rfl
              · exact rfl
              refine wp_load_set _ rfl g' (k * 4) s rfl hcd ?_
              refine hK _ _ ?_
              clear hK K
              try simp only [Act.put, List.setIfInBounds_toArray, List.set_cons_zero, List.set_cons_succ]
              refine' free_sole ?_ ?_ (fun K hK => ?_)
              rotate_left 1
              · simp only [List.getElem?_toArray, List.getElem?_cons_zero, List.getElem?_cons_succ]; exact rfl
              · exact rfl
              refine wp_load_set _ rfl g 0 U rfl hgd.four ?_
              refine hK _ _ ?_
              clear hK K
              try simp only [Act.put, List.setIfInBounds_toArray, List.set_cons_zero, List.set_cons_succ]
              refine' free_sole ?_ ?_ (fun K hK => ?_)
              rotate_left 1
              · simp only [List.getElem?_toArray, List.getElem?_cons_zero, List.getElem?_cons_succ]; exact rfl
              · exact rfl
              go_simp
              refine (or_any _ _ _).mono ?_
              rintro e w7 ⟨rfl, hb7⟩
              refine hK _ _ ?_
              have hg7 := setAt_below hgd hb7 hbd
              have hc7 := hcd.below hb7 hbd'
              have hr7 := hrd.trans (hb7.mono hrd.size)
              clear hK K
              try simp only [Act.put, List.setIfInBounds_toArray, List.set_cons_zero, List.set_cons_succ]
              refine' free_sole ?_ ?_ (fun K hK => ?_)
              rotate_left 1
              · simp only [List.getElem?_toArray, List.getElem?_cons_zero, List.getElem?_cons_succ]; exact rfl
              · exact rfl
              refine wp_store_set _ _ rfl g _ _ rfl rfl hg7 ?_
              intro w8 hs8 ho8
              refine hK _ _ ?_
              have hc8 : Set4 w8 g' (k * 4) s := fun q hq => by rw [ho8.cell (by show g' ≠ g; omega)]; exact hc7 q hq
              have hr8 := ho8.below hr7 hg6
              clear hK K
              try simp only [Act.put, List.setIfInBounds_toArray, List.set_cons_zero, List.set_cons_succ]
              refine free_done ?_
              go_wp2_with (first
                | (refine wpList_load_set rfl _ rfl g' (k * 4) s rfl hc8 ?_)
                | (go_at_call 21; refine (len_any s _).mono ?_; rintro e w9 ⟨rfl, hb9⟩))
              go_roundw
              case rel => exact ⟨k + 1, by omega, by go_num, by rw [HS.out]; go_num, by rw [HU.out]; exact setAt_below hs8 hb9 (setAt_lt hs8), hr8.trans (hb9.mono hr8.size)⟩
              case measure => simp [intOf]; omega
          · obtain rfl : k = M.length := by omega
            have hd : decide ((M.length : Int) < M.length) = false := by simp
            rw [List.take_length] at hg ⊢
            rw [hU] at hg
            rw [hS]
            clear hle hU hS hp hE hE0
            have hij : ((i : Int) == (j : Int)) = v12 := by
              cases v12
              · rw [beq_eq_false_iff_ne]; intro h; have := hsame.1 (by omega); cases this
              · rw [beq_iff_eq]; have := hsame.2 rfl; omega
            have hall := all_any
            have heq := eql_same (BitVec.allOnes 256)
            generalize BitVec.allOnes 256 = A at *
            have hgb := setAt_lt hg
            have hlA : ∀ w', (∃ L : Later wr, w' = L.val) → Set4 w' g 0 A := fun w' hw' => by obtain ⟨L', rfl⟩ := hw'; exact (setAt_below hg L'.ok hgb).four
            have hne := Later.nonempty wr
            have hz := hbw2.trans (hr.mono hbw2.size)
            clear hsame hg hs6
            go_wp2_with fail
            refine wp_region_later (W0 := wr) (Below.refl _ _) (by kernel_rfl) (by as_aux_lemma => kernel_rfl) ?_
            iterate 12 (go_big_quiet_step (fail))
            go_big_quiet_want
            refine quiet_load_set _ rfl g 0 A rfl hlA ?_
            go_big_quiet_on
            simp only [Act.put, List.setIfInBounds_toArray, List.set_cons_zero, List.set_cons_succ]
            repeat (go_big_quiet_step (exact Later.calls (hall _)))
            refine wpQuiet_nil ?_
            intro w' hw'
            obtain ⟨L', rfl⟩ := hw'
            go_wp2_with fail
            go_ret
            exact ⟨rfl, hz.trans (L'.ok.mono hz.size)⟩
end Go.Proofs.YtnhlopbpggdneaaDoor
