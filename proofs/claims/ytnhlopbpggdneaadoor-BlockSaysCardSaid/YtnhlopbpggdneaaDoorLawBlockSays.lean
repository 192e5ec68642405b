/- The walk of the law that the layer answers as the document's own Blocks does. -/
import Derived.Test.YtnhlopbpggdneaaDoorRefBlocks
import Derived.Test.YtnhlopbpggdneaaDoorBlockAwake
import Derived.Test.YtnhlopbpggdneaaDoorEager
namespace Go.Proofs.YtnhlopbpggdneaaDoor
open Go.RowKit

set_option maxHeartbeats 1000000 in
theorem own3_any (s : BitVec 256) (w : World) : Calls Tryd.prog 16 #[SV s] w fun e w' => e = .returned (BV s.getLsbD) ∧ Below w.heap.size w w' := by
  have hz := zeroRef
  go_enter Tryd.func16, Tryd.ntmps16
  go_wp2_with fail
  refine (from_any s _).mono ?_
  rintro e w1 ⟨rfl, hb1⟩
  have hR : BAt w1 (w.heap.size + 1) bNone := (BAt.start (w.alloc _) _ _ rfl _ (by simp)).below hb1 (by simp)
  have hB : Below w.heap.size w w1 := (((Below.refl _ _).alloc (Nat.le_refl _) _).alloc (by simp) _).trans (hb1.mono (by simp; omega))
  go_wp2_with (first | (refine wpList_store_row rfl 38 _ _ rfl (w.heap.size + 1) _ rfl rfl _ _ hR (infoRef' _) (by rw [bc_size, bc_size]) (bc_one _) ?_))
  refine bodyPost_ret (v := BV s.getLsbD) (results_cell_row Tryd.results16 _ _ (w.heap.size + 1) _ _ _ _ rfl (BAt.rowSame hR) Tryd.underlying38 rfl (infoRef' _)) rfl ⟨rfl, below_row hB (by omega) _⟩
theorem eqlr_same (f : Nat → Bool) (w : World) : (Op.equalIn 10000 38 (BV f) (BV f)).run Tryd.prog w = .ok true w := by
  rw [eql_ref]; congr 1; simp
theorem refList_first (A : BitVec 256) (h : Nat) (l : List Nat) (hl : elems A = h :: l) (w : World) :
    Calls Tryd.prog 18 #[BV A.getLsbD] w fun e w' => ∃ b off n cap, e = .returned (.slice (some ⟨b, off, none⟩) n cap) ∧ 0 < n ∧ n ≤ 256 ∧ n ≤ cap ∧ b < w'.heap.size ∧ w'.cell? ⟨b, off, none⟩ = some (.int .u8 (h : Int)) ∧ Below w.heap.size w w' := by
  have hlt : ∀ x ∈ elems A, x < 256 := fun x hx => ((mem_elems A x).1 hx).1
  have hle := elems_length_le A
  have hc := refList_any A.getLsbD w
  rw [below_all] at hc
  refine (listAt_of_row hc hlt).mono ?_
  rintro e w' ⟨a, cap, rfl, hb, hlist⟩
  obtain ⟨_, _, _, h0 | ⟨b, off, h1, h2, h3, h4⟩⟩ := hlist w' (Below.refl _ _)
  · rw [hl] at h0; simp at h0
  · subst h1
    have hpos : 0 < (elems A).length := by rw [hl]; simp
    have hc := h4 0 hpos
    rw [hl] at hc
    exact ⟨b, off, _, cap, rfl, hpos, hle, h2, h3, hc, hb⟩
theorem part_elems (L : List (BitVec 256)) (j : Nat) (hj : j < (partsOf L).length) : ∃ l, elems ((partsOf L).getD j 0) = (headsAll L).getD j 0 :: l := by
  obtain ⟨h1, h2⟩ := head_at L j hj
  rw [part_at L j hj]
  have hr := rep_head h2 h1
  unfold rep at hr
  cases he : elems (alike L ((headsAll L).getD j 0)) with
  | nil =>
    have := elems_nil he _ h1
    rw [alike_bit L _ _ h1, same_refl] at this; cases this
  | cons b l =>
    rw [he] at hr
    exact ⟨l, by rw [← hr]; rfl⟩
theorem heads_parts (L : List (BitVec 256)) : headsOf (partsOf L) = headsAll L := by
  unfold headsOf partsOf partsTo
  rw [List.filterMap_map]
  have h : ∀ (l : List Nat), (∀ x ∈ l, x < 256 ∧ isHead L x = true) → l.filterMap ((fun s => (elems s).head?) ∘ alike L) = l := by
    intro l
    induction l with
    | nil => intro _; rfl
    | cons x l ih =>
      intro hx
      obtain ⟨h1, h2⟩ := hx x (by simp)
      have hr := rep_head h2 h1
      unfold rep at hr
      have he : (elems (alike L x)).head? = some x := by
        cases he : elems (alike L x) with
        | nil =>
          have := elems_nil he _ h1
          rw [alike_bit L _ _ h1, same_refl] at this; cases this
        | cons b l' => rw [he] at hr; exact congrArg some hr
      rw [List.filterMap_cons]
      simp only [Function.comp, he]
      rw [ih (fun y hy => hx y (by simp [hy]))]
  exact h _ (fun x hx => (mem_headsTo L 256 x).1 hx)
theorem refs_open {w : World} {base : Nat} {a : Option Addr} {n cap : Nat} {F : List (Nat → Bool)} (h : RefsAt w a n cap F) (ho : ∀ x, a = some x → base ≤ x.block ∧ x.off = 0) (hn : 0 < n) :
    ∃ g, a = some ⟨g, 0, none⟩ ∧ n ≤ cap ∧ base ≤ g ∧ g < w.heap.size ∧ ∀ j, j < n → Ref256 w g (j * 256) (F.getD j bNone) := by
  obtain ⟨h1, h2, h3⟩ := h
  rcases h3 with h3 | ⟨b, off, rfl, e2, e3, e4⟩
  · omega
  · obtain ⟨hb, ho'⟩ := ho _ rfl
    have hz : off = 0 := ho'
    subst hz
    exact ⟨b, rfl, e2, hb, e3, fun j hj => by have := e4 j hj; rwa [Nat.zero_add] at this⟩
theorem bytes_cell {w : World} {a : Option Addr} {n cap : Nat} {l : List Nat} (h : BytesAt w a n cap l) (j : Nat) (hj : j < n) : ∃ b off, a = some ⟨b, off, none⟩ ∧ n ≤ cap ∧ b < w.heap.size ∧ w.cell? ⟨b, off + j, none⟩ = some (.int .u8 (l.getD j 0 : Nat)) := by
  obtain ⟨_, _, _, h0 | ⟨b, off, h1, h2, h3, h4⟩⟩ := h
  · omega
  · exact ⟨b, off, h1, h2, h3, h4 j hj⟩
theorem map_getLsbD (P : List (BitVec 256)) (j : Nat) (hj : j < P.length) : (P.map BitVec.getLsbD).getD j bNone = (P.getD j 0).getLsbD := by
  rw [getD_at _ j bNone (by rw [List.length_map]; exact hj), List.getElem_map, getD_at P j 0 hj]
set_option maxRecDepth 100000 in
set_option maxHeartbeats 8000000 in
theorem blockSays_walk (a : Option Addr) (n cap : Nat) (L : List (BitVec 256)) (a' : Option Addr) (n' cap' : Nat) (l : List Nat) (w : World) (hl : SetsAt w a n cap L) (hs : BytesAt w a' n' cap' l) (hT : TabAt 0 Lib.deBruijn64tab w) :
    Calls Tryd.prog 4 #[.slice a n cap, .slice a' n' cap'] w fun e w' => e = .returned (.bool true) ∧ Below w.heap.size w w' := by
  obtain ⟨hnl, hmax, hcells⟩ := hl
  obtain ⟨hnl', hlt, hmax', hcells'⟩ := hs
  have hl : SetsAt w a n cap L := ⟨hnl, hmax, hcells⟩
  have hs : BytesAt w a' n' cap' l := ⟨hnl', hlt, hmax', hcells'⟩
  unfold maxLen at hmax hmax'
  clear hcells hcells'
  have Hnl := Lib.hid hnl
  have Hnl' := Lib.hid hnl'
  have Hlt := Lib.hid hlt
  clear hnl hnl' hlt
  obtain ⟨i0, hi, hz0, hz1, hz2⟩ := info_parts info_ref
  go_enter Tryd.func4, Tryd.ntmps4
  go_wp2_with fail
  refine (awake_any _ hT).mono ?_
  rintro e w1 ⟨rfl, hb1⟩
  have hT1 := tab_below hT hb1 (tab_pos hT)
  have hl1 := hl.below hb1 rfl
  have hs1 := bytes_keep hs hb1
  by_cases hbig : 12 < n
  · have hd : decide ((12 : Int) < n) = true := by simp; omega
    go_wp2_with fail
    go_ret
    exact ⟨rfl, hb1⟩
  · have hd : decide ((12 : Int) < n) = false := by simp; omega
    by_cases hbig' : 60 < n'
    · have hd' : decide ((60 : Int) < n') = true := by simp; omega
      go_wp2_with fail
      go_ret
      exact ⟨rfl, hb1⟩
    · have hd' : decide ((60 : Int) < n') = false := by simp; omega
      obtain ⟨F, hF⟩ : ∃ F, F = L.map BitVec.getLsbD := ⟨_, rfl⟩
      have HF := Lib.hid hF
      have hFl : F.length = n := by rw [hF, List.length_map]; exact Hnl.out.symm
      have HFl := Lib.hid hFl
      clear hF hFl
      have Hl1 := Lib.hid hl1
      have Hs1 := Lib.hid hs1
      clear hl hs hl1 hs1
      go_wp2_with fail
      go_loopw [5, 6] (fun v i wr => ∃ k : Nat, k ≤ n ∧ i = .int .i64 k ∧ wr.ownsRow w1.heap.size 38 256 v k (refCells (F.take k)) ∧ Below w1.heap.size w1 wr) (fun _ i _ => n - (intOf i).toNat)
      case atStart => exact ⟨0, by omega, rfl, World.ownsRow_nil _ _ _ _, Below.refl _ _⟩
      case round =>
        obtain ⟨k, hk, rfl, hown, hr⟩ := hrel
        by_cases hkn : k < n
        · have hd : decide ((k : Int) < n) = true := by simp; omega
          obtain ⟨hx1, hx2, hcells⟩ := Hl1.out
          clear hx1 hx2
          rcases hcells with h0 | ⟨bb, off, rfl, hcap, hbw, hcells⟩
          · omega
          · obtain ⟨s, hs⟩ : ∃ s, s = L.getD k 0 := ⟨_, rfl⟩
            have hc : Set4 wr bb (off + k * 4) s := by rw [hs]; exact (hcells k hkn).below hr hbw
            have hkl : k < L.length := by rw [← Hnl.out]; exact hkn
            have hkF : k < F.length := by rw [HFl.out]; exact hkn
            have hnext : refCells (F.take (k + 1)) = refCells (F.take k) ++ (bc s.getLsbD).toList := by
              have e : F[k] = s.getLsbD := by rw [← getD_at F k bNone hkF, HF.out, map_getLsbD L k hkl, hs]
              rw [List.take_succ_eq_append_getElem hkF, refCells_append, refCells_one, e]
            have Hnext := Lib.hid hnext
            have Hown := Lib.hid hown
            clear hcells hs hnext hown hkF hkl
            go_wp2_with (first
              | (refine wpList_load_set rfl _ rfl bb (off + k * 4) s rfl hc ?_)
              | (go_at_call 16; refine (own3_any s _).mono ?_; rintro e w3 ⟨rfl, hb3⟩; have hr3 := hr.trans (hb3.mono hr.size); have Hown3 := Lib.hid (owns_below Hown.out hb3))
              | (refine wpList_build_ref rfl _ rfl s.getLsbD rfl ?_)
              | (at_builtin; refine wpList_append_own _ rfl _ _ 36 rfl w1.heap.size 38 i0 (.agg (bc bNone)) 256 256 Tryd.underlying36 hi hz0 hz1 hz2 (bc_size _) (by decide) _ _ _ rfl (Hown3.out.alloc _) ⟨w3.heap.size, 0, none⟩ 1 1 (bc s.getLsbD).toList rfl (by rw [bc_length]) ?c1 ?c2 ?c3 ?c4 ?c5 ?_))
            case c1 => exact bc_new _ _ _
            case c2 => exact bc_list_one _
            case c3 => unfold maxLen; omega
            case c4 => omega
            case c5 => have := hr3.size; simp; omega
            intro v' w5 hown5 hgrow _
            have hn5 := (hr3.alloc hr3.size _).grown hgrow (by have := hr3.size; simp; omega) (fun k hk => (Hown3.out.lt k hk).1)
            have Hown5 := Lib.hid hown5
            clear hown5 hgrow
            go_wp2_with fail
            go_roundw
            case rel => exact ⟨k + 1, by omega, by go_num, by rw [Hnext.out]; exact Hown5.out, hn5⟩
            case measure => simp [intOf]; omega
        · obtain rfl : k = n := by omega
          have hd : decide ((k : Int) < k) = false := by simp
          have ht : F.take k = F := List.take_of_length_le (by rw [HFl.out]; exact Nat.le_refl _)
          rw [ht] at hown
          obtain ⟨wa, wcap, rfl⟩ := owns_form hown
          have hrefs : RefsAt wr wa k wcap (L.map BitVec.getLsbD) := by
            have h2 : wr.ownsRow w1.heap.size 38 256 (.slice wa F.length wcap) F.length (refCells F) := by rw [HFl.out]; exact hown
            have := (refsAt_of_owns h2).1
            rw [← HF.out]
            rwa [HFl.out] at this
          have hT2 := tab_below hT1 hr (tab_pos hT1)
          have hbw2 := hb1.trans (hr.mono hb1.size)
          have hof := blockOf_any a k cap L wr (Hl1.out.below hr rfl) hT2
          clear ht hown
          go_wp2_with fail
          refine hof.mono ?_
          rintro e w3 ⟨pa, pcap, rfl, hp, hb3, hoff⟩
          have hbl := refBlocks_any wa k wcap L w3 (hrefs.below hb3 rfl)
          go_wp2_with fail
          refine hbl.mono ?_
          rintro e w4 ⟨qa, qcap, rfl, hq, hb4, hqoff⟩
          have hT4 := tab_below (tab_below hT2 hb3 (tab_pos hT2)) hb4 (by have := tab_pos hT2; have := hb3.size; omega)
          have hp4 := hp.below hb4 rfl
          have hle := parts_le L
          have hbw4 := (hbw2.trans (hb3.mono hbw2.size)).trans (hb4.mono (hbw2.trans (hb3.mono hbw2.size)).size)
          have hs4 := bytes_keep (bytes_keep (bytes_keep Hs1.out hr) hb3) hb4
          have hhd := listAt_of_row (heads_any pa _ pcap (partsOf L) w4 hp4 (by omega) hT4) (by rw [heads_parts]; exact fun x hx => ((mem_headsTo L 256 x).1 hx).1)
          rw [heads_parts] at hhd
          rw [List.length_map] at hq ⊢
          have Hhl := Lib.hid (parts_length L)
          clear hof hbl hrefs hp hb3 hb4 hT2 hr hb1 hbw2 hT1 Hs1 Hl1
          go_wp2_with fail
          refine hhd.mono ?_
          rintro e w5 ⟨ha, hcap, rfl, hb5, hhlist⟩
          rw [← Hhl.out] at hhlist ⊢
          have hh5 := hhlist w5 (Below.refl _ _)
          have hp5 := hp4.below hb5 rfl
          have hq5 := hq.below hb5 rfl
          have hs5 := bytes_keep hs4 hb5
          have hT5 := tab_below hT4 hb5 (tab_pos hT4)
          have hbw5 := hbw4.trans (hb5.mono hbw4.size)
          have hpe := part_elems L
          have hG := map_getLsbD (partsOf L)
          have hfp := find_part L
          have hff := fun b (h : findOk (partsOf L) b = true) => find_facts h
          have hhm := heads_map L l Hlt.out
          have hrl := rep_lt L l Hlt.out
          have Hmap := Lib.hid hhm
          have Hrl := Lib.hid hrl
          clear hhd hhlist hp4 hq hs4 hT4 hbw4 hb5 hhm hrl
          generalize headsAll L = H at *
          generalize (partsOf L).map BitVec.getLsbD = G at *
          generalize partsOf L = P at *
          have Hp5 := Lib.hid hp5
          have Hq5 := Lib.hid hq5
          have Hh5 := Lib.hid hh5
          have Hs5 := Lib.hid hs5
          have Hpe := Lib.hid hpe
          have HG := Lib.hid hG
          have Hfp := Lib.hid hfp
          have Hff := Lib.hid hff
          clear hp5 hq5 hh5 hs5 hpe hG hfp hff
          go_wp2_with fail
          go_loopw [10] (fun i wr => ∃ k : Nat, k ≤ P.length ∧ i = .int .i64 k ∧ Below w5.heap.size w5 wr) (fun i _ => P.length - (intOf i).toNat)
          case atStart => exact ⟨0, by omega, rfl, Below.refl _ _⟩
          case round =>
            obtain ⟨wo, rfl⟩ : ∃ wo : World, wo = wr := ⟨_, rfl⟩
            obtain ⟨j, hj, rfl, hr⟩ := hrel
            by_cases hjl : j < P.length
            · have hd : decide ((j : Int) < P.length) = true := by simp; omega
              obtain ⟨gp, rfl, hcp, _, hgp, hcellp⟩ := sets_open Hp5.out hoff (by omega)
              obtain ⟨gq, rfl, hcq, _, hgq, hcellq⟩ := refs_open Hq5.out hqoff (by omega)
              obtain ⟨bh, oh, rfl, hch, hzh, hxh⟩ := bytes_cell Hh5.out j hjl
              have hA := hcellp j hjl
              have hB := hcellq j hjl
              rw [HG.out j hjl] at hB
              obtain ⟨tl, hel⟩ := Hpe.out j hjl
              obtain ⟨A, hAe⟩ : ∃ A, A = P.getD j 0 := ⟨_, rfl⟩
              obtain ⟨x, hxe⟩ : ∃ x, x = H.getD j 0 := ⟨_, rfl⟩
              rw [← hAe] at hA hB hel
              rw [← hxe] at hxh hel
              have hbp : gp < wo.heap.size := by have := hr.size; omega
              have hbq : gq < wo.heap.size := by have := hr.size; omega
              have hbh : bh < wo.heap.size := by have := hr.size; omega
              have hlA : ∀ w', (∃ L : Later wo, w' = L.val) → Set4 w' gp (j * 4) A := fun w' hw' => by obtain ⟨L', rfl⟩ := hw'; exact (hA.below hr hgp).below L'.ok hbp
              have hlB : ∀ w', (∃ L : Later wo, w' = L.val) → Ref256 w' gq (j * 256) A.getLsbD := fun w' hw' => by obtain ⟨L', rfl⟩ := hw'; exact (hB.below hr hgq).below L'.ok hbq
              have g1 : ∀ L : Later wo, L.val.cell? ⟨bh, oh + j, none⟩ = some (.int .u8 (x : Int)) := fun L' => by rw [(hr.trans (L'.ok.mono hr.size)).cell (p := ⟨bh, oh + j, none⟩) hzh]; exact hxh
              have hfirst := refList_first A x tl hel
              have heqr := eqlr_same A.getLsbD
              clear hA hB hxh hcellp hcellq hAe hxe hel
              go_wp2_with fail
              have hne := Later.nonempty wo
              refine wp_region_eager (.plain 0 (.plain 1 (.plain 2 (.plain 3 (.plain 5 (.plain 6 (.plain 7 (.plain 8 (.sole 4 (.plain 9 (.plain 10 (.plain 11 (.plain 12 (.plain 13 (.plain 14 (.plain 15 (.plain 16 (.plain 17 (.plain 18 (.sole 19 (.plain 20 (.plain 21 (.plain 22 (.plain 23 .done)))))))))))))))))))))))) (W0 := wo) (Below.refl _ _) (by kernel_rfl) (by kernel_rfl) (fun c a d v w h => by cases d <;> exact h) ?_
              have hcur := (Below.refl wo.heap.size wo).drew
              repeat (first
                  | (refine' eager_skip ?_ ?_ ?_
                     rotate_left 1
                     · simp only [List.getElem?_toArray, List.getElem?_cons_zero, List.getElem?_cons_succ]; exact rfl
                     · exact rfl
                     simp only [Act.put, List.setIfInBounds_toArray, List.set_cons_zero, List.set_cons_succ])
                  | (refine' eager_want ?_ ?_ (fun K hK => ?_)
                     rotate_left 1
                     · simp only [List.getElem?_toArray, List.getElem?_cons_zero, List.getElem?_cons_succ]; exact rfl
                     · exact rfl
                     first
                     | (refine quiet_load_set _ rfl gp (j * 4) A rfl hlA ?_; refine hK _ ?_; clear hK K; try simp only [Act.put, List.setIfInBounds_toArray, List.set_cons_zero, List.set_cons_succ])
                     | (refine quiet_load_refAt _ rfl gq (j * 256) A.getLsbD rfl hlB ?_; refine hK _ ?_; clear hK K; try simp only [Act.put, List.setIfInBounds_toArray, List.set_cons_zero, List.set_cons_succ])
                     | (go_big_quiet_op; refine hK _ ?_; clear hK K)))
              refine' eager_call ?_ ?_ (fun K hK => ?_)
              rotate_left 1
              · simp only [List.getElem?_toArray, List.getElem?_cons_zero, List.getElem?_cons_succ]; exact rfl
              · exact rfl
              go_simp
              refine (own3_any A _).mono ?_
              rintro e wn ⟨rfl, hb⟩
              refine hK _ _ hb ?_
              replace hcur := hcur.trans (hb.mono hcur.size)
              clear hb hK K
              try simp only [Act.put, List.setIfInBounds_toArray, List.set_cons_zero, List.set_cons_succ]
              repeat (first
                  | (refine' eager_skip ?_ ?_ ?_
                     rotate_left 1
                     · simp only [List.getElem?_toArray, List.getElem?_cons_zero, List.getElem?_cons_succ]; exact rfl
                     · exact rfl
                     simp only [Act.put, List.setIfInBounds_toArray, List.set_cons_zero, List.set_cons_succ])
                  | (refine' eager_want ?_ ?_ (fun K hK => ?_)
                     rotate_left 1
                     · simp only [List.getElem?_toArray, List.getElem?_cons_zero, List.getElem?_cons_succ]; exact rfl
                     · exact rfl
                     first
                     | (refine quiet_load_set _ rfl gp (j * 4) A rfl hlA ?_; refine hK _ ?_; clear hK K; try simp only [Act.put, List.setIfInBounds_toArray, List.set_cons_zero, List.set_cons_succ])
                     | (refine quiet_load_refAt _ rfl gq (j * 256) A.getLsbD rfl hlB ?_; refine hK _ ?_; clear hK K; try simp only [Act.put, List.setIfInBounds_toArray, List.set_cons_zero, List.set_cons_succ])
                     | (go_big_quiet_op; refine hK _ ?_; clear hK K)))
              refine' eager_call_new ?_ ?_ (fun K hK => ?_)
              rotate_left 1
              · simp only [List.getElem?_toArray, List.getElem?_cons_zero, List.getElem?_cons_succ]; exact rfl
              · exact rfl
              go_simp
              refine (hfirst _).mono ?_
              rintro e wn ⟨lb, lo, ln, lc, rfl, hln0, hln, hlc, hlb, hlcell, hb⟩
              refine hK _ _ hb ?_
              replace hcur := hcur.trans (hb.mono hcur.size)
              have hne' := Later.nonempty wn
              have g2 : ∀ L : Later wn, L.val.cell? ⟨lb, lo, none⟩ = some (.int .u8 (x : Int)) := fun L' => by rw [L'.ok.cell (p := ⟨lb, lo, none⟩) hlb]; exact hlcell
              clear hb hK K
              try simp only [Act.put, List.setIfInBounds_toArray, List.set_cons_zero, List.set_cons_succ]
              repeat (first
                  | (refine' eager_skip ?_ ?_ ?_
                     rotate_left 1
                     · simp only [List.getElem?_toArray, List.getElem?_cons_zero, List.getElem?_cons_succ]; exact rfl
                     · exact rfl
                     simp only [Act.put, List.setIfInBounds_toArray, List.set_cons_zero, List.set_cons_succ])
                  | (refine' eager_want ?_ ?_ (fun K hK => ?_)
                     rotate_left 1
                     · simp only [List.getElem?_toArray, List.getElem?_cons_zero, List.getElem?_cons_succ]; exact rfl
                     · exact rfl
                     first
                     | (refine quiet_load_set _ rfl gp (j * 4) A rfl hlA ?_; refine hK _ ?_; clear hK K; try simp only [Act.put, List.setIfInBounds_toArray, List.set_cons_zero, List.set_cons_succ])
                     | (refine quiet_load_refAt _ rfl gq (j * 256) A.getLsbD rfl hlB ?_; refine hK _ ?_; clear hK K; try simp only [Act.put, List.setIfInBounds_toArray, List.set_cons_zero, List.set_cons_succ])
                     | (go_big_quiet_op; refine hK _ ?_; clear hK K)))
              refine eager_done ?_
              have h5 := hr.trans (hcur.mono hr.size)
              clear g1 g2 hlA hlB
              go_wp2_with fail
              go_roundw
              case rel => exact ⟨j + 1, by omega, by go_num, h5⟩
              case measure => simp [intOf]; omega
            · obtain rfl : j = P.length := by omega
              have hd : decide ((P.length : Int) < P.length) = false := by simp
              have hT6 := tab_below hT5 hr (tab_pos hT5)
              have hbw6 := hbw5.trans (hr.mono hbw5.size)
              have hp6 := Hp5.out.below hr rfl
              have hq6 := Hq5.out.below hr rfl
              have hh6 := bytes_keep Hh5.out hr
              have hs6 := bytes_keep Hs5.out hr
              have hmap := listAt_of_row (map_any pa P.length pcap P a' n' cap' l wo hp6 hs6 (by omega) hT6) (by rw [Hmap.out]; exact Hrl.out)
              rw [Hmap.out] at hmap
              obtain ⟨R, hR⟩ : ∃ R, R = l.map (rep L) := ⟨_, rfl⟩
              have hRl : R.length = n' := by rw [hR, List.length_map]; exact Hnl'.out.symm
              have hRat : ∀ j, j < n' → R.getD j 0 = rep L (l.getD j 0) := fun j hj => by
                have hj' : j < l.length := by rw [← Hnl'.out]; exact hj
                rw [hR, getD_at _ j _ (by rw [List.length_map]; exact hj'), List.getElem_map, getD_at l j 0 hj']
              have HRl := Lib.hid hRl
              have HRat := Lib.hid hRat
              rw [← hR] at hmap
              clear hR hRl hRat Hp5 Hq5 Hh5 Hs5 hT5 hbw5 hr
              go_wp2_with fail
              refine hmap.mono ?_
              rintro e w7 ⟨ma, mcap, rfl, hb7, hm⟩
              rw [HRl.out] at hm ⊢
              have Hm7 := Lib.hid (hm w7 (Below.refl _ _))
              have Hp7 := Lib.hid (hp6.below hb7 rfl)
              have Hq7 := Lib.hid (hq6.below hb7 rfl)
              have Hh7 := Lib.hid (bytes_keep hh6 hb7)
              have Hs7 := Lib.hid (bytes_keep hs6 hb7)
              have hbw7 := hbw6.trans (hb7.mono hbw6.size)
              clear hm hp6 hq6 hh6 hs6 hmap hb7 hT6 hbw6
              go_wp2_with fail
              go_loopw [12] (fun i wr => ∃ k : Nat, k ≤ n' ∧ i = .int .i64 k ∧ Below w7.heap.size w7 wr) (fun i _ => n' - (intOf i).toNat)
              case atStart => exact ⟨0, by omega, rfl, Below.refl _ _⟩
              case round =>
                obtain ⟨wq, rfl⟩ : ∃ wq : World, wq = wr := ⟨_, rfl⟩
                obtain ⟨i, hi', rfl, hr⟩ := hrel
                by_cases hin : i < n'
                · have hd : decide ((i : Int) < n') = true := by simp; omega
                  obtain ⟨b1, o1, rfl, hc1, hz1', hx1⟩ := bytes_cell Hs7.out i hin
                  obtain ⟨b2, o2, rfl, hc2, hz2', hx2⟩ := bytes_cell Hm7.out i hin
                  rw [HRat.out i hin] at hx2
                  have hxl : l.getD i 0 < 256 := by rw [getD_at l i 0 (by rw [← Hnl'.out]; exact hin)]; exact Hlt.out _ (List.getElem_mem _)
                  obtain ⟨x, hx⟩ : ∃ x, x = l.getD i 0 := ⟨_, rfl⟩
                  rw [← hx] at hx1 hx2 hxl
                  obtain ⟨f1, f2, f3, _⟩ := Hfp.out x hxl
                  have f4 := (Hff.out x f1).2
                  have hfind := find_any pa P.length pcap P x hxl wq (Hp7.out.below hr rfl)
                  rw [f1] at hfind
                  generalize findAt P x = k at *
                  obtain ⟨gq, rfl, hcq, _, hgq, hcellq⟩ := refs_open Hq7.out hqoff (by omega)
                  obtain ⟨bh, oh, rfl, hch, hzh, hxh⟩ := bytes_cell Hh7.out k f2
                  rw [f3] at hxh
                  have hB := hcellq k f2 x hxl
                  rw [HG.out k f2, f4] at hB
                  generalize rep L x = y at *
                  have hx1' : wq.cell? ⟨b1, o1 + i, none⟩ = some (.int .u8 (x : Int)) := by rw [hr.cell (p := ⟨b1, o1 + i, none⟩) hz1']; exact hx1
                  clear hcellq hx f1 f3 f4
                  go_wp2_with fail
                  refine hfind.mono ?_
                  rintro e w8 ⟨rfl, hb8⟩
                  have hr8 := hr.trans (hb8.mono hr.size)
                  have g1 : ∀ L : Later w8, L.val.cell? ⟨b1, o1 + i, none⟩ = some (.int .u8 (x : Int)) := fun L' => by rw [(hr8.trans (L'.ok.mono hr8.size)).cell (p := ⟨b1, o1 + i, none⟩) hz1']; exact hx1
                  have g2 : ∀ L : Later w8, L.val.cell? ⟨b2, o2 + i, none⟩ = some (.int .u8 (y : Int)) := fun L' => by rw [(hr8.trans (L'.ok.mono hr8.size)).cell (p := ⟨b2, o2 + i, none⟩) hz2']; exact hx2
                  have g3 : ∀ L : Later w8, L.val.cell? ⟨bh, oh + k, none⟩ = some (.int .u8 (y : Int)) := fun L' => by rw [(hr8.trans (L'.ok.mono hr8.size)).cell (p := ⟨bh, oh + k, none⟩) hzh]; exact hxh
                  have g4 : ∀ L : Later w8, L.val.cell? ⟨gq, k * 256 + x, none⟩ = some (.bool true) := fun L' => by rw [(hr8.trans (L'.ok.mono hr8.size)).cell (p := ⟨gq, k * 256 + x, none⟩) hgq]; exact hB
                  have d0 : decide ((k : Int) < 0) = false := by simp
                  have d1 : decide ((P.length : Int) ≤ k) = false := by simp; omega
                  have d2 : decide (P.length ≤ k) = false := by simp; omega
                  have hx256 : (x : Int) < 256 := by omega
                  have hne := Later.nonempty w8
                  clear hx1 hx2 hxh hB hx1' hfind hb8
                  go_wp2_with fail
                  refine wp_region_later (W0 := w8) (Below.refl _ _) (by kernel_rfl) (by as_aux_lemma => kernel_rfl) ?_
                  repeat (go_big_quiet_step (fail))
                  refine wpQuiet_nil ?_
                  intro w' hw'
                  obtain ⟨L', rfl⟩ := hw'
                  have h5 := hr8.trans (L'.ok.mono hr8.size)
                  clear g1 g2 g3 g4
                  go_wp2_with fail
                  go_roundw
                  case rel => exact ⟨i + 1, by omega, by go_num, h5⟩
                  case measure => simp [intOf]; omega
                · obtain rfl : i = n' := by omega
                  have hd : decide ((i : Int) < i) = false := by simp
                  go_wp2_with fail
                  go_ret
                  exact ⟨rfl, hbw7.trans (hr.mono hbw7.size)⟩
end Go.Proofs.YtnhlopbpggdneaaDoor
