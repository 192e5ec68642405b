/- lang's machine: step, walked. -/
import Derived.Test.YtobhjfhmhhahoaaLangEnter
import Derived.Test.YtobhjfhmhhahoaaSetOps
namespace Go.Proofs.Ytobhjfhmhhahoaa
namespace K
set_option maxRecDepth 100000
open Go.RowKit
def NewCrowd (d : List Nat × List Bool) (w : World) (e : Ending) (w' : World) : Prop :=
  ∃ vl vi, e = .returned (.agg #[vl, vi]) ∧ CrowdV w.heap.size w' vl vi d ∧ Below w.heap.size w w'
theorem fold_take {S : List St} {b : Nat} (l : List Nat) (j : Nat) (hj : j < l.length) (z : List Nat × List Bool) : (l.take (j + 1)).foldl (readM S b) z = readM S b ((l.take j).foldl (readM S b) z) l[j] := by
  rw [List.take_succ_eq_append_getElem hj, List.foldl_append]; rfl
theorem heap_set {w : World} {b : Nat} {cs : Array Value} {t : TypeId} {f : Nat × Nat} (h : w.heap[b]? = some (.cells cs t f)) (q : Nat) (v : Value) : (w.setCell ⟨b, q, none⟩ v).heap[b]? = some (.cells (cs.setIfInBounds q v) t f) := by
  simp [World.setCell, Array.getElem?_modify, h]
def StepRel (S : List St) (b : Nat) (l : List Nat) (W : World) (c j : Nat) (wr : World) : Prop := CrowdAt W.heap.size wr c ((l.take j).foldl (readM S b) (noCrowd S.length)) ∧ Below W.heap.size W wr
set_option maxHeartbeats 4000000 in
theorem step_walk {A B0 m q : Nat} {S : List St} (hw : StWf S.length S) (hS : S.length ≤ 100000) (h0 : 0 < S.length) {d : List Nat × List Bool} {w : World} {vl vi : Value} (hm : MachAt A w m S q) (hd : CrowdV B0 w vl vi d) (hok : CrOk S.length d) (b : Nat) (hb : b < 256) :
    Calls Try.prog 31 #[.pointer (some ⟨m, 0, none⟩), .agg #[vl, vi], .int .u8 (b : Int)] w (NewCrowd (stepM S d b) w) := by
  obtain ⟨la, lcap, hvl, hlm, hlc⟩ := nats_open hd.1
  obtain ⟨ia, icap, hvi⟩ := owns_form hd.2
  subst hvl hvi
  have hdl : d.1.length ≤ S.length := by have := hok.cnt; omega
  have hlq : ∀ j (hj : j < d.1.length), d.1[j] < S.length := fun j hj => crowd_lt hok (List.getElem_mem hj)
  obtain ⟨R, hR⟩ : ∃ R, R = stepM S d b := ⟨_, rfl⟩
  rw [← hR]
  have HR := Lib.hid hR
  clear hR
  obtain ⟨W, hW⟩ : ∃ W, W = (w.alloc (.cells #[.slice la d.1.length lcap, .slice ia d.2.length icap] 61)).alloc (.cells #[.slice none 0 0, .slice none 0 0] 61) := ⟨_, rfl⟩
  have hbW : Below w.heap.size w W := by rw [hW]; exact ((Below.refl _ _).alloc (Nat.le_refl _) _).alloc (by simp) _
  have hsW : W.heap.size = w.heap.size + 2 := by rw [hW]; simp
  have hn0 : W.heap[w.heap.size]? = some (.cells #[.slice la d.1.length lcap, .slice ia d.2.length icap] 61) := by rw [hW]; exact (Below.heap_alloc _ _ _ (by simp)).trans (World.alloc_heap_new w _)
  have hn1 : W.heap[w.heap.size + 1]? = some (.cells #[.slice none 0 0, .slice none 0 0] 61) := by
    rw [hW]
    have h := World.alloc_heap_new (w.alloc (.cells #[.slice la d.1.length lcap, .slice ia d.2.length icap] 61)) (.cells #[.slice none 0 0, .slice none 0 0] 61)
    rw [World.size_alloc] at h; exact h
  have hmW := hm.below hbW
  have HN0 := Lib.hid hn0
  have HN1 := Lib.hid hn1
  have HBW := Lib.hid hbW
  have HSW := Lib.hid hsW
  have Hno := Lib.hid (nowhere_walk hmW h0 hS)
  have Hlc := Lib.hid hlc
  have Hlq := Lib.hid hlq
  have HMW := Lib.hid hmW
  have Hok := Lib.hid hok
  clear hn0 hn1 hbW hsW hmW hm hd hlq hlc hok
  go_enter Try.func31, Try.ntmps31
  go_upto_region 1 with fail
  rw [← hW]
  clear hW
  go_wp2_with fail
  refine Hno.out.mono ?_
  rintro e w1 ⟨vi1, rfl, hc1, hb1⟩
  obtain ⟨ja, jcap, hvi1⟩ := owns_form hc1.2
  subst hvi1
  have hlen1 : (noCrowd S.length).2.length = S.length := by simp [noCrowd]
  rw [hlen1] at hc1 ⊢
  have HC1 := Lib.hid hc1
  have HB1 := Lib.hid hb1
  have hz1 : W.heap.size ≤ w1.heap.size := hb1.size
  clear hc1 hb1 hlen1 Hno
  go_upto_region 2 with fail
  have hbox0 := World.alloc_heap_new w1 (.cells #[.slice none 0 0, .slice ja S.length jcap] 61)
  have hst : StepRel S b d.1 W w1.heap.size 0 (w1.alloc (.cells #[.slice none 0 0, .slice ja S.length jcap] 61)) := by
    have hcv := HC1.out
    refine ⟨⟨hz1, _, _, hbox0, ⟨by simp [natsV, noCrowd], .inl ⟨rfl, rfl⟩⟩, ?_⟩, HB1.out.alloc hz1 _⟩
    simp only [List.take_zero, List.foldl_nil]
    exact hcv.2.alloc _
  have hfree : ∀ w2 : World, StepRel S b d.1 W w1.heap.size 0 w2 → w2.cell? ⟨w.heap.size, 0, none⟩ = some (.slice la d.1.length lcap) := fun w2 h => by
    rw [h.2.cell (p := ⟨w.heap.size, 0, none⟩) (by rw [HSW.out]; show w.heap.size < _; omega), cells_at HN0.out]; rfl
  have hcn := hfree _ hst
  have HST := Lib.hid hst
  clear hbox0 hst hfree HC1 HB1
  generalize w1.alloc (.cells #[.slice none 0 0, .slice ja S.length jcap] 61) = w2 at *
  go_wp2_with fail
  go_loopw [16] (fun i wr => ∃ j : Nat, i = .int .i64 j ∧ j ≤ d.1.length ∧ StepRel S b d.1 W w1.heap.size j wr) (fun i _ => d.1.length - (intOf i).toNat)
  case atStart => exact ⟨0, rfl, Nat.zero_le _, HST.out⟩
  case round =>
    obtain ⟨j, rfl, hj, hrel⟩ := hrel
    by_cases hjl : j < d.1.length
    · have hdj : decide ((j : Int) < d.1.length) = true := by simp; omega
      rcases Hlc.out with h | ⟨g, hla, hcap, hgw, _, hget⟩
      · omega
      subst hla
      obtain ⟨hcr, hbr⟩ := hrel
      have hgj : wr.cell? ⟨g, j, none⟩ = some (.int .i64 (d.1[j] : Int)) := by
        rw [hbr.cell (p := ⟨g, j, none⟩) (by rw [HSW.out]; show g < _; omega), HBW.out.cell (p := ⟨g, j, none⟩) hgw]
        exact hget j _ (List.getElem?_eq_getElem hjl)
      have hp := Hlq.out j hjl
      have hpm : d.1[j] ∈ d.1 := List.getElem_mem hjl
      have hft := fold_take (S := S) (b := b) d.1 j hjl (noCrowd S.length)
      have hhalf := half_fold hw (b := b) (d.1.take j) (fun q hq => crowd_lt Hok.out (List.mem_of_mem_take hq))
      generalize (d.1.take j).foldl (readM S b) (noCrowd S.length) = D at *
      generalize d.1[j] = p at *
      have hmr := HMW.out.below hbr
      have hbB : W.heap.size ≤ wr.heap.size := hbr.size
      obtain ⟨sb, scap, d0, g1, g2, hsc, hsm, hsb, hst, g3, g4⟩ := hmr.open h0
      clear g1 g2 g3 g4
      have h7 := state7_of hst hp
      have hsl : decide ((p : Int) < S.length) = true := by simp; omega
      obtain ⟨hn1, hn2, hset⟩ := hw _ (List.getElem_mem hp)
      clear hset hn2 hst
      have hrd : readM S b D p = if S[p].set.getLsbD b = true then enterM (S.length + 1) S D S[p].next else D := by
        unfold readM; rw [List.getElem?_eq_getElem hp]
      rw [hrd] at hft
      have hoff := off_le D.2
      rw [hhalf.ok.len] at hoff
      have hent := fun w => enter_walk hw hS (A := A) (B := W.heap.size) (m := m) (q := q) (c := w1.heap.size) (S.length + 1) D S[p].next w
      have Hent := Lib.hid hent
      have Hft := Lib.hid hft
      have Hhalf := Lib.hid hhalf
      have Hcr := Lib.hid hcr
      have Hbr := Lib.hid hbr
      have Hmr := Lib.hid hmr
      clear hft hhalf hcr hbr hmr hent hrd hpm
      go_upto_region 6 with (first
        | (refine wpList_load_state rfl _ rfl sb (p * 7) (stVals S[p]) rfl h7 ?_)
        | (refine wpList_store_state rfl _ _ rfl wr.heap.size _ (stVals S[p]).toArray rfl rfl (World.alloc_heap_new wr _) rfl rfl (by simp [stVals, Value.oneCell']) ?_; intro w4 hx4 ho4; have Hx4 := Lib.hid hx4; have Ho4 := Lib.hid ho4; clear hx4 ho4; simp only [Act.put]))
      have hx4 := Hx4.out
      have b34 := only_new_below Ho4.out ((Below.refl wr.heap.size wr).alloc (Nat.le_refl _) _) (Nat.le_refl _)
      have x1 : w4.cell? ⟨wr.heap.size, 1, none⟩ = some (.int .u64 (word S[p].set 0)) := by rw [cells_at hx4]; rfl
      have x2 : w4.cell? ⟨wr.heap.size, 2, none⟩ = some (.int .u64 (word S[p].set 1)) := by rw [cells_at hx4]; rfl
      have x3 : w4.cell? ⟨wr.heap.size, 3, none⟩ = some (.int .u64 (word S[p].set 2)) := by rw [cells_at hx4]; rfl
      have x4 : w4.cell? ⟨wr.heap.size, 4, none⟩ = some (.int .u64 (word S[p].set 3)) := by rw [cells_at hx4]; rfl
      have x5 : w4.cell? ⟨wr.heap.size, 5, none⟩ = some (.int .i64 (S[p].next : Int)) := by rw [cells_at hx4]; rfl
      have xlt : wr.heap.size < w4.heap.size := lt_of_block hx4
      have hb4 := Hbr.out.trans (b34.mono hbB)
      have hm4 := Hmr.out.below b34
      have hc4 := Hcr.out.below b34
      have hhas := has_any S[p].set b hb w4
      have Hb4 := Lib.hid hb4
      have Hm4 := Lib.hid hm4
      have Hc4 := Lib.hid hc4
      have hB4 : W.heap.size ≤ w4.heap.size := Nat.le_trans hbB b34.size
      clear hx4 Hx4 Ho4 b34 hb4 hm4 hc4 d0 hsb hsl hsc hsm h7 hgj
      by_cases hv : S[p].set.getLsbD b = true
      · rw [hv] at hhas
        have hft := Hft.out
        rw [if_pos hv] at hft
        have Hft2 := Lib.hid hft
        clear hft Hft hv
        go_wp2_with fail
        refine hhas.mono ?_
        clear hhas
        rintro e w5 ⟨rfl, hb5⟩
        have y5 : w5.cell? ⟨wr.heap.size, 5, none⟩ = some (.int .i64 (S[p].next : Int)) := (hb5.cell (p := ⟨wr.heap.size, 5, none⟩) xlt).trans x5
        have Hen := Lib.hid (Hent.out w5 (Hm4.out.below hb5) (Hc4.out.below hb5) Hhalf.out.ok hn1 (by omega) (Nat.le_trans hB4 hb5.size))
        have Hb5 := Lib.hid (Hb4.out.trans (hb5.mono hB4))
        clear x1 x2 x3 x4 x5 hb5 Hent
        go_wp2_with fail
        refine Hen.out.mono ?_
        rintro e w6 ⟨rfl, c6, f6⟩
        rw [← Hft2.out] at c6
        have hrel : StepRel S b d.1 W w1.heap.size (j + 1) w6 := ⟨c6, Hb5.out.trans f6.below⟩
        have Hrel := Lib.hid hrel
        clear c6 f6 hrel Hen Hft2 y5 hoff hn1
        go_wp2_with fail
        go_roundw
        case rel => exact ⟨j + 1, by go_num, hjl, Hrel.out⟩
        case measure => simp [intOf]; omega
      · have hft := Hft.out
        rw [if_neg hv] at hft
        rw [Bool.not_eq_true] at hv
        rw [hv] at hhas
        have Hft2 := Lib.hid hft
        clear hft Hft hv
        go_wp2_with fail
        refine hhas.mono ?_
        clear hhas
        rintro e w5 ⟨rfl, hb5⟩
        have hc5 := Hc4.out.below hb5
        rw [← Hft2.out] at hc5
        have hrel : StepRel S b d.1 W w1.heap.size (j + 1) w5 := ⟨hc5, Hb4.out.trans (hb5.mono hB4)⟩
        have Hrel := Lib.hid hrel
        clear x1 x2 x3 x4 x5 hb5 Hent hc5 hrel Hft2 hoff hn1
        go_wp2_with fail
        go_roundw
        case rel => exact ⟨j + 1, by go_num, hjl, Hrel.out⟩
        case measure => simp [intOf]; omega
    · obtain rfl : j = d.1.length := by omega
      have hdj : decide ((d.1.length : Int) < d.1.length) = false := by simp
      obtain ⟨hcr, hbr⟩ := hrel
      rw [List.take_length] at hcr
      have hRe : R = d.1.foldl (readM S b) (noCrowd S.length) := HR.out
      rw [← hRe] at hcr
      obtain ⟨hcB, vl, vi, hblk, hcv⟩ := hcr
      have k0 : wr.cell? ⟨w1.heap.size, 0, none⟩ = some vl := by rw [cells_at hblk]; rfl
      have k1 : wr.cell? ⟨w1.heap.size, 1, none⟩ = some vi := by rw [cells_at hblk]; rfl
      have hr1 : wr.heap[w.heap.size + 1]? = some (.cells #[.slice none 0 0, .slice none 0 0] 61) := (hbr.block _ (by rw [HSW.out]; omega)).trans HN1.out
      have r0 : wr.cell? ⟨w.heap.size + 1, 0, none⟩ = some (.slice none 0 0) := by rw [cells_at hr1]; rfl
      have r1 : wr.cell? ⟨w.heap.size + 1, 1, none⟩ = some (.slice none 0 0) := by rw [cells_at hr1]; rfl
      have rf : ∀ o, wr.frozen? ⟨w.heap.size + 1, o, none⟩ = false := fun o => by simp [World.frozen?, hr1]
      have Hr1 := Lib.hid hr1
      have Hcv := Lib.hid hcv
      have Hbr := Lib.hid hbr
      obtain ⟨la', lcap', hvl'⟩ := owns_form hcv.1
      obtain ⟨ia', icap', hvi'⟩ := owns_form hcv.2
      subst hvl' hvi'
      clear hRe HR hblk hcv hr1 hbr
      go_wp2_with fail
      refine bodyPost_ret (v := .agg #[.slice la' R.1.length lcap', .slice ia' R.2.length icap']) (by simp [results, Try.results31, go_sem, r0, r1]) rfl ⟨_, _, rfl, ?_, ?_⟩
      · have h1 := heap_set Hr1.out 0 (.slice la' R.1.length lcap')
        refine ⟨owns_mono (owns_other (owns_other Hcv.out.1 (p := ⟨w.heap.size + 1, 0, none⟩) Hr1.out (by decide) _) (p := ⟨w.heap.size + 1, 1, none⟩) h1 (by decide) _) (by rw [HSW.out]; omega), owns_mono (owns_other (owns_other Hcv.out.2 (p := ⟨w.heap.size + 1, 0, none⟩) Hr1.out (by decide) _) (p := ⟨w.heap.size + 1, 1, none⟩) h1 (by decide) _) (by rw [HSW.out]; omega)⟩
      · exact ((HBW.out.trans (Hbr.out.mono (by rw [HSW.out]; omega))).setCell (by show w.heap.size ≤ w.heap.size + 1; omega) _).setCell (by show w.heap.size ≤ w.heap.size + 1; omega) _
end K
end Go.Proofs.Ytobhjfhmhhahoaa
