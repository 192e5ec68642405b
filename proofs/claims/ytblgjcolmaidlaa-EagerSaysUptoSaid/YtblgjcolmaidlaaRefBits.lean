/- The document's own Bits, walked for every value that is not too great. -/
import Derived.Test.YtblgjcolmaidlaaRefVals
import Derived.Test.YtblgjcolmaidlaaBitsPut
namespace Go.Proofs.Ytblgjcolmaidlaa
namespace V
set_option maxRecDepth 100000
open Go.RowKit
/-- the choices so far -/
def partB (k : Int) (L : List Vl) (j : Nat) : List Nat := (if k = 4 then [48] else if k = 5 then [49] else []) ++ (if k = 6 then ((L.take j).map Vl.put).flatMap (fun p => 48 :: p) else ((L.take j).map Vl.put).flatten)
theorem partB_step (k : Int) (L : List Vl) (j : Nat) (hj : j < L.length) : partB k L (j + 1) = partB k L j ++ ((if k = 6 then [48] else []) ++ L[j].put) := by
  unfold partB
  by_cases h6 : k = 6
  · subst h6
    rw [if_pos rfl, if_pos rfl, if_pos rfl, putStar_take L j hj, List.append_assoc]; rfl
  · rw [if_neg h6, if_neg h6, if_neg h6, putFlat_take L j hj, List.nil_append, List.append_assoc]
theorem partB_pre (k : Int) (L : List Vl) (j n : Nat) (h : j ≤ n) : (partB k L j).length ≤ (partB k L n).length := by
  unfold partB
  rw [List.length_append, List.length_append]
  refine Nat.add_le_add_left ?_ _
  split
  · have e : (L.take n).map Vl.put = (L.take j).map Vl.put ++ ((L.take n).drop j).map Vl.put := by
      rw [← List.map_append]
      congr 1
      have := List.take_append_drop j (L.take n)
      rw [List.take_take, Nat.min_eq_left h] at this
      exact this.symm
    rw [e, List.flatMap_append, List.length_append]; omega
  · have := putFlat_pre L j n h
    omega
theorem partB_all (k : Int) (z : Nat) (l : List Vl) : (Vl.mk k z l).put = partB k (cntd (.mk k z l)) (cntd (.mk k z l)).length ++ (if k = 6 then [49] else []) := by
  rw [put_cntd]
  unfold partB putT
  rw [List.take_of_length_le (Nat.le_refl _)]
  show (if k = 4 then _ else if k = 5 then _ else if k = 6 then _ else _) = _
  by_cases h4 : k = 4
  · subst h4; simp
  by_cases h5 : k = 5
  · subst h5; simp
  by_cases h6 : k = 6
  · subst h6; simp
  · simp [h4, h5, h6]
set_option maxHeartbeats 8000000 in
theorem refBits_any : ∀ (m : Nat) (x : Vl) (cs : List Value) (w : World), x.count ≤ m → Vl.at w x cs → x.put.length ≤ 70368744177664 →
    Calls Try.prog 17 #[.agg cs.toArray] w fun e w' => (∃ u : ByteArray, e = .returned (.string u) ∧ nats u = x.put) ∧ Below w.heap.size w w'
  | 0, x, _, _, h, _, _ => absurd (Vl.count_pos x) (by omega)
  | m + 1, x, cs, w, hm, hat, hlen => by
    have hcnt := refCounted_all (Vl.at_below (K.alloc_below w (.cells cs.toArray 35)) (Nat.le_refl _) _ _ hat)
    have hcnt : Calls Try.prog 20 #[.agg cs.toArray] (w.alloc (.cells cs.toArray 35)) fun e w' => ∃ v, e = .returned v ∧ ListAt w (cntd x) v ∧ Below (w.alloc (.cells cs.toArray 35)).heap.size (w.alloc (.cells cs.toArray 35)) w' := by
      refine hcnt.mono ?_
      rintro e w' ⟨v, h1, h2, h3⟩
      exact ⟨v, h1, h2 w hat, h3⟩
    have hlt := cntd_counts x
    have hbox : Val3 (w.alloc (.cells cs.toArray 35)) w.heap.size 0 cs := ⟨at_len hat, fun q _ => by rw [Nat.zero_add, cells_at (World.alloc_heap_new w _)]; simp⟩
    have hLm : counts (cntd x) ≤ m := by omega
    have hLx : (cntd x).length ≤ 9223372036854775807 := by
      cases x with
      | mk k z l => rw [at_mk] at hat; obtain ⟨_, _, _, _, _, hmax, _⟩ := hat; rw [cntd_mk, List.length_take]; unfold maxLen at hmax; omega
    have hcells := at_cells hat
    obtain ⟨k, z, l⟩ := x
    obtain ⟨a0, cap0, _, hcs⟩ := hcells
    simp only [Vl.kind, Vl.byte, Vl.nodes] at hcs
    have hX := partB_all k z l
    generalize (Vl.mk k z l).put = X at *
    generalize cntd (.mk k z l) = L at *
    have hpre : (partB k L L.length).length ≤ 70368744177664 := by rw [hX, List.length_append] at hlen; omega
    have Hih := Lib.hid (refBits_any m)
    have HLm := Lib.hid hLm
    have HX := Lib.hid hX
    have Hpre := Lib.hid hpre
    generalize hln : l.length = ln at *
    subst hcs
    have c00 := hbox.2 0 (by decide)
    simp only [List.getElem?_cons_zero, Nat.add_zero] at c00
    clear hat hlt hm hLm hln hlen hX hpre
    by_cases k4 : k = 4
    · subst k4
      go_enter Try.func17, Try.ntmps17
      go_wp2_with (first
        | (refine wpList_load_refval rfl _ rfl w.heap.size 0 _ rfl hbox ?_)
        | (go_at_call 20; refine hcnt.mono ?_; rintro e w1 ⟨v, rfl, ⟨a, cap, rfl, hmax, hl⟩, hb1⟩; have c01 : w1.cell? ⟨w.heap.size, 0, none⟩ = some (.int .i64 4) := (hb1.cell (p := ⟨w.heap.size, 0, none⟩) (by simp)).trans c00; have Hb1 := Lib.hid hb1; have Hl := Lib.hid hl; clear hb1 hcnt hl hmax)
        | fail)
      clear hbox c00
      go_loopw [3, 5] (fun v i wr => ∃ (j : Nat) (t : ByteArray), v = .string t ∧ i = .int .i64 j ∧ j ≤ L.length ∧ Hid (nats t = partB 4 L j) ∧ Hid (Below w1.heap.size w1 wr)) (fun _ i _ => L.length - (intOf i).toNat)
      case atStart => exact ⟨0, _, rfl, rfl, Nat.zero_le _, Lib.hid (by unfold partB; rfl), Lib.hid (Below.refl _ _)⟩
      case round =>
        obtain ⟨j, t, rfl, rfl, hj, ht, hB⟩ := hrel
        have HB : Hid (Below w.heap.size w wr) := Lib.hid ((K.alloc_below w _).trans ((Hb1.out.trans (hB.out.mono Hb1.out.size)).mono (by simp)))
        have hts : t.size = (partB 4 L j).length := size_nats ht.out
        have c0r : wr.cell? ⟨w.heap.size, 0, none⟩ = some (.int .i64 4) := (hB.out.cell (p := ⟨w.heap.size, 0, none⟩) (World.block_lt_of_cell? w1 _ c01)).trans c01
        have hts1 : t.size ≤ 70368744177664 := by have := partB_pre 4 L j L.length hj; have := Hpre.out; omega
        have Hts1 := Lib.hid hts1
        clear hts1
        by_cases hjl : j < L.length
        · have hdj : decide ((j : Int) < L.length) = true := by simp; omega
          rcases Hl.out with hl0 | ⟨b, off, ha, hcap, hbw, hnodes⟩
          · omega
          · obtain ⟨ds, hcell, hchild⟩ := vals_get _ b L off hnodes j hjl
            have h9 : Val3 wr b (off + j * 3) ds := hcell.below hbw HB.out
            have hcj : L[j].count ≤ m := Nat.le_trans (counts_mem (List.getElem_mem hjl)) HLm.out
            have hstep := partB_step 4 L j hjl
            have hit : L[j].put.length ≤ 70368744177664 := by
              have h1 := partB_pre 4 L (j + 1) L.length hjl
              rw [hstep, List.length_append, List.length_append] at h1
              have := Hpre.out; omega
            have hcall := Hih.out L[j] ds wr hcj (Vl.at_below HB.out (Nat.le_refl _) _ _ hchild) hit
            have Hit := Lib.hid hit
            have Hnext := Lib.hid (show ∀ u, nats u = L[j].put → nats (t ++ u) = partB 4 L (j + 1) from fun u hu => by rw [nats_add, hu, ht.out, hstep, if_neg (by decide), List.nil_append])
            have hnat : (9223372036854775807 < t.size + 1) = False := by have := Hts1.out; simp; omega
            obtain ⟨k1, z1, a1, len1, cap1, rfl⟩ := at_lit hchild
            subst ha
            clear hcell hchild hnodes hstep hcj hit hts
            go_wp2_with (first
              | (refine wpList_load_refval rfl _ rfl b (off + j * 3) _ rfl h9 ?_)
              | (go_at_call 17; refine hcall.mono ?_; rintro e w3 ⟨⟨u, rfl, hu⟩, hb3⟩; have Hb3 := Lib.hid hb3; have hus := size_nats hu; have hsum : (9223372036854775807 < t.size + u.size) = False := (by have := Hit.out; have := Hts1.out; simp; omega); have hsum2 : (9223372036854775807 < t.size + 1 + u.size) = False := (by have := Hit.out; have := Hts1.out; simp; omega); have Hu := Lib.hid hu; clear hb3 hus hu)
              | fail)
            go_roundw
            case rel => exact ⟨j + 1, _, rfl, by go_num, by omega, Lib.hid (Hnext.out u Hu.out), Lib.hid (hB.out.trans (Hb3.out.mono hB.out.size))⟩
            case measure => simp [intOf]; omega
        · obtain rfl : j = L.length := by omega
          have hdj : decide ((L.length : Int) < L.length) = false := by simp
          have hs1 : (9223372036854775807 < t.size + 1) = False := by have := Hts1.out; simp; omega
          clear hts hjl hj
          go_wp2_with fail
          go_ret
          exact ⟨⟨_, rfl, by rw [ht.out, HX.out, if_neg (by decide), List.append_nil]⟩, HB.out⟩

    by_cases k5 : k = 5
    · subst k5
      go_enter Try.func17, Try.ntmps17
      go_wp2_with (first
        | (refine wpList_load_refval rfl _ rfl w.heap.size 0 _ rfl hbox ?_)
        | (go_at_call 20; refine hcnt.mono ?_; rintro e w1 ⟨v, rfl, ⟨a, cap, rfl, hmax, hl⟩, hb1⟩; have c01 : w1.cell? ⟨w.heap.size, 0, none⟩ = some (.int .i64 5) := (hb1.cell (p := ⟨w.heap.size, 0, none⟩) (by simp)).trans c00; have Hb1 := Lib.hid hb1; have Hl := Lib.hid hl; clear hb1 hcnt hl hmax)
        | fail)
      clear hbox c00
      go_loopw [3, 5] (fun v i wr => ∃ (j : Nat) (t : ByteArray), v = .string t ∧ i = .int .i64 j ∧ j ≤ L.length ∧ Hid (nats t = partB 5 L j) ∧ Hid (Below w1.heap.size w1 wr)) (fun _ i _ => L.length - (intOf i).toNat)
      case atStart => exact ⟨0, _, rfl, rfl, Nat.zero_le _, Lib.hid (by unfold partB; rfl), Lib.hid (Below.refl _ _)⟩
      case round =>
        obtain ⟨j, t, rfl, rfl, hj, ht, hB⟩ := hrel
        have HB : Hid (Below w.heap.size w wr) := Lib.hid ((K.alloc_below w _).trans ((Hb1.out.trans (hB.out.mono Hb1.out.size)).mono (by simp)))
        have hts : t.size = (partB 5 L j).length := size_nats ht.out
        have c0r : wr.cell? ⟨w.heap.size, 0, none⟩ = some (.int .i64 5) := (hB.out.cell (p := ⟨w.heap.size, 0, none⟩) (World.block_lt_of_cell? w1 _ c01)).trans c01
        have hts1 : t.size ≤ 70368744177664 := by have := partB_pre 5 L j L.length hj; have := Hpre.out; omega
        have Hts1 := Lib.hid hts1
        clear hts1
        by_cases hjl : j < L.length
        · have hdj : decide ((j : Int) < L.length) = true := by simp; omega
          rcases Hl.out with hl0 | ⟨b, off, ha, hcap, hbw, hnodes⟩
          · omega
          · obtain ⟨ds, hcell, hchild⟩ := vals_get _ b L off hnodes j hjl
            have h9 : Val3 wr b (off + j * 3) ds := hcell.below hbw HB.out
            have hcj : L[j].count ≤ m := Nat.le_trans (counts_mem (List.getElem_mem hjl)) HLm.out
            have hstep := partB_step 5 L j hjl
            have hit : L[j].put.length ≤ 70368744177664 := by
              have h1 := partB_pre 5 L (j + 1) L.length hjl
              rw [hstep, List.length_append, List.length_append] at h1
              have := Hpre.out; omega
            have hcall := Hih.out L[j] ds wr hcj (Vl.at_below HB.out (Nat.le_refl _) _ _ hchild) hit
            have Hit := Lib.hid hit
            have Hnext := Lib.hid (show ∀ u, nats u = L[j].put → nats (t ++ u) = partB 5 L (j + 1) from fun u hu => by rw [nats_add, hu, ht.out, hstep, if_neg (by decide), List.nil_append])
            have hnat : (9223372036854775807 < t.size + 1) = False := by have := Hts1.out; simp; omega
            obtain ⟨k1, z1, a1, len1, cap1, rfl⟩ := at_lit hchild
            subst ha
            clear hcell hchild hnodes hstep hcj hit hts
            go_wp2_with (first
              | (refine wpList_load_refval rfl _ rfl b (off + j * 3) _ rfl h9 ?_)
              | (go_at_call 17; refine hcall.mono ?_; rintro e w3 ⟨⟨u, rfl, hu⟩, hb3⟩; have Hb3 := Lib.hid hb3; have hus := size_nats hu; have hsum : (9223372036854775807 < t.size + u.size) = False := (by have := Hit.out; have := Hts1.out; simp; omega); have hsum2 : (9223372036854775807 < t.size + 1 + u.size) = False := (by have := Hit.out; have := Hts1.out; simp; omega); have Hu := Lib.hid hu; clear hb3 hus hu)
              | fail)
            go_roundw
            case rel => exact ⟨j + 1, _, rfl, by go_num, by omega, Lib.hid (Hnext.out u Hu.out), Lib.hid (hB.out.trans (Hb3.out.mono hB.out.size))⟩
            case measure => simp [intOf]; omega
        · obtain rfl : j = L.length := by omega
          have hdj : decide ((L.length : Int) < L.length) = false := by simp
          have hs1 : (9223372036854775807 < t.size + 1) = False := by have := Hts1.out; simp; omega
          clear hts hjl hj
          go_wp2_with fail
          go_ret
          exact ⟨⟨_, rfl, by rw [ht.out, HX.out, if_neg (by decide), List.append_nil]⟩, HB.out⟩

    by_cases k6 : k = 6
    · subst k6
      go_enter Try.func17, Try.ntmps17
      go_wp2_with (first
        | (refine wpList_load_refval rfl _ rfl w.heap.size 0 _ rfl hbox ?_)
        | (go_at_call 20; refine hcnt.mono ?_; rintro e w1 ⟨v, rfl, ⟨a, cap, rfl, hmax, hl⟩, hb1⟩; have c01 : w1.cell? ⟨w.heap.size, 0, none⟩ = some (.int .i64 6) := (hb1.cell (p := ⟨w.heap.size, 0, none⟩) (by simp)).trans c00; have Hb1 := Lib.hid hb1; have Hl := Lib.hid hl; clear hb1 hcnt hl hmax)
        | fail)
      clear hbox c00
      go_loopw [3, 5] (fun v i wr => ∃ (j : Nat) (t : ByteArray), v = .string t ∧ i = .int .i64 j ∧ j ≤ L.length ∧ Hid (nats t = partB 6 L j) ∧ Hid (Below w1.heap.size w1 wr)) (fun _ i _ => L.length - (intOf i).toNat)
      case atStart => exact ⟨0, _, rfl, rfl, Nat.zero_le _, Lib.hid (by unfold partB; rfl), Lib.hid (Below.refl _ _)⟩
      case round =>
        obtain ⟨j, t, rfl, rfl, hj, ht, hB⟩ := hrel
        have HB : Hid (Below w.heap.size w wr) := Lib.hid ((K.alloc_below w _).trans ((Hb1.out.trans (hB.out.mono Hb1.out.size)).mono (by simp)))
        have hts : t.size = (partB 6 L j).length := size_nats ht.out
        have c0r : wr.cell? ⟨w.heap.size, 0, none⟩ = some (.int .i64 6) := (hB.out.cell (p := ⟨w.heap.size, 0, none⟩) (World.block_lt_of_cell? w1 _ c01)).trans c01
        have hts1 : t.size ≤ 70368744177664 := by have := partB_pre 6 L j L.length hj; have := Hpre.out; omega
        have Hts1 := Lib.hid hts1
        clear hts1
        by_cases hjl : j < L.length
        · have hdj : decide ((j : Int) < L.length) = true := by simp; omega
          rcases Hl.out with hl0 | ⟨b, off, ha, hcap, hbw, hnodes⟩
          · omega
          · obtain ⟨ds, hcell, hchild⟩ := vals_get _ b L off hnodes j hjl
            have h9 : Val3 wr b (off + j * 3) ds := hcell.below hbw HB.out
            have hcj : L[j].count ≤ m := Nat.le_trans (counts_mem (List.getElem_mem hjl)) HLm.out
            have hstep := partB_step 6 L j hjl
            have hit : L[j].put.length ≤ 70368744177664 := by
              have h1 := partB_pre 6 L (j + 1) L.length hjl
              rw [hstep, List.length_append, List.length_append] at h1
              have := Hpre.out; omega
            have hcall := Hih.out L[j] ds wr hcj (Vl.at_below HB.out (Nat.le_refl _) _ _ hchild) hit
            have Hit := Lib.hid hit
            have Hnext := Lib.hid (show ∀ u, nats u = L[j].put → nats ((t ++ ⟨#[48]⟩) ++ u) = partB 6 L (j + 1) from fun u hu => by rw [nats_add, nats_add, hu, ht.out, hstep, if_pos rfl, List.append_assoc]; rfl)
            have hnat : (9223372036854775807 < t.size + 1) = False := by have := Hts1.out; simp; omega
            obtain ⟨k1, z1, a1, len1, cap1, rfl⟩ := at_lit hchild
            subst ha
            clear hcell hchild hnodes hstep hcj hit hts
            go_wp2_with (first
              | (refine wpList_load_refval rfl _ rfl b (off + j * 3) _ rfl h9 ?_)
              | (go_at_call 17; refine hcall.mono ?_; rintro e w3 ⟨⟨u, rfl, hu⟩, hb3⟩; have Hb3 := Lib.hid hb3; have hus := size_nats hu; have hsum : (9223372036854775807 < t.size + u.size) = False := (by have := Hit.out; have := Hts1.out; simp; omega); have hsum2 : (9223372036854775807 < t.size + 1 + u.size) = False := (by have := Hit.out; have := Hts1.out; simp; omega); have Hu := Lib.hid hu; clear hb3 hus hu)
              | fail)
            go_roundw
            case rel => exact ⟨j + 1, _, rfl, by go_num, by omega, Lib.hid (Hnext.out u Hu.out), Lib.hid (hB.out.trans (Hb3.out.mono hB.out.size))⟩
            case measure => simp [intOf]; omega
        · obtain rfl : j = L.length := by omega
          have hdj : decide ((L.length : Int) < L.length) = false := by simp
          have hs1 : (9223372036854775807 < t.size + 1) = False := by have := Hts1.out; simp; omega
          clear hts hjl hj
          go_wp2_with fail
          go_ret
          exact ⟨⟨_, rfl, by rw [nats_add, ht.out, HX.out, if_pos trivial]; rfl⟩, HB.out⟩

    · have e4 : (k == 4) = false := by simp [k4]
      have e5 : (k == 5) = false := by simp [k5]
      have e6 : (k == 6) = false := by simp [k6]
      have H6 := Lib.hid k6
      have H45 := Lib.hid (And.intro k4 k5)
      clear k4 k5 k6
      go_enter Try.func17, Try.ntmps17
      go_wp2_with (first
        | (refine wpList_load_refval rfl _ rfl w.heap.size 0 _ rfl hbox ?_)
        | (go_at_call 20; refine hcnt.mono ?_; rintro e w1 ⟨v, rfl, ⟨a, cap, rfl, hmax, hl⟩, hb1⟩; have c01 : w1.cell? ⟨w.heap.size, 0, none⟩ = some (.int .i64 k) := (hb1.cell (p := ⟨w.heap.size, 0, none⟩) (by simp)).trans c00; have Hb1 := Lib.hid hb1; have Hl := Lib.hid hl; clear hb1 hcnt hl hmax)
        | fail)
      clear hbox c00
      go_loopw [3, 5] (fun v i wr => ∃ (j : Nat) (t : ByteArray), v = .string t ∧ i = .int .i64 j ∧ j ≤ L.length ∧ Hid (nats t = partB k L j) ∧ Hid (Below w1.heap.size w1 wr)) (fun _ i _ => L.length - (intOf i).toNat)
      case atStart => exact ⟨0, _, rfl, rfl, Nat.zero_le _, Lib.hid (by unfold partB; rw [if_neg H45.out.1, if_neg H45.out.2, if_neg H6.out]; rfl), Lib.hid (Below.refl _ _)⟩
      case round =>
        obtain ⟨j, t, rfl, rfl, hj, ht, hB⟩ := hrel
        have HB : Hid (Below w.heap.size w wr) := Lib.hid ((K.alloc_below w _).trans ((Hb1.out.trans (hB.out.mono Hb1.out.size)).mono (by simp)))
        have hts : t.size = (partB k L j).length := size_nats ht.out
        have c0r : wr.cell? ⟨w.heap.size, 0, none⟩ = some (.int .i64 k) := (hB.out.cell (p := ⟨w.heap.size, 0, none⟩) (World.block_lt_of_cell? w1 _ c01)).trans c01
        have hts1 : t.size ≤ 70368744177664 := by have := partB_pre k L j L.length hj; have := Hpre.out; omega
        have Hts1 := Lib.hid hts1
        clear hts1
        by_cases hjl : j < L.length
        · have hdj : decide ((j : Int) < L.length) = true := by simp; omega
          rcases Hl.out with hl0 | ⟨b, off, ha, hcap, hbw, hnodes⟩
          · omega
          · obtain ⟨ds, hcell, hchild⟩ := vals_get _ b L off hnodes j hjl
            have h9 : Val3 wr b (off + j * 3) ds := hcell.below hbw HB.out
            have hcj : L[j].count ≤ m := Nat.le_trans (counts_mem (List.getElem_mem hjl)) HLm.out
            have hstep := partB_step k L j hjl
            have hit : L[j].put.length ≤ 70368744177664 := by
              have h1 := partB_pre k L (j + 1) L.length hjl
              rw [hstep, List.length_append, List.length_append] at h1
              have := Hpre.out; omega
            have hcall := Hih.out L[j] ds wr hcj (Vl.at_below HB.out (Nat.le_refl _) _ _ hchild) hit
            have Hit := Lib.hid hit
            have Hnext := Lib.hid (show ∀ u, nats u = L[j].put → nats (t ++ u) = partB k L (j + 1) from fun u hu => by rw [nats_add, hu, ht.out, hstep, if_neg H6.out, List.nil_append])
            have hnat : (9223372036854775807 < t.size + 1) = False := by have := Hts1.out; simp; omega
            obtain ⟨k1, z1, a1, len1, cap1, rfl⟩ := at_lit hchild
            subst ha
            clear hcell hchild hnodes hstep hcj hit hts
            go_wp2_with (first
              | (refine wpList_load_refval rfl _ rfl b (off + j * 3) _ rfl h9 ?_)
              | (go_at_call 17; refine hcall.mono ?_; rintro e w3 ⟨⟨u, rfl, hu⟩, hb3⟩; have Hb3 := Lib.hid hb3; have hus := size_nats hu; have hsum : (9223372036854775807 < t.size + u.size) = False := (by have := Hit.out; have := Hts1.out; simp; omega); have hsum2 : (9223372036854775807 < t.size + 1 + u.size) = False := (by have := Hit.out; have := Hts1.out; simp; omega); have Hu := Lib.hid hu; clear hb3 hus hu)
              | fail)
            go_roundw
            case rel => exact ⟨j + 1, _, rfl, by go_num, by omega, Lib.hid (Hnext.out u Hu.out), Lib.hid (hB.out.trans (Hb3.out.mono hB.out.size))⟩
            case measure => simp [intOf]; omega
        · obtain rfl : j = L.length := by omega
          have hdj : decide ((L.length : Int) < L.length) = false := by simp
          have hs1 : (9223372036854775807 < t.size + 1) = False := by have := Hts1.out; simp; omega
          clear hts hjl hj
          go_wp2_with fail
          go_ret
          exact ⟨⟨_, rfl, by rw [ht.out, HX.out, if_neg H6.out, List.append_nil]⟩, HB.out⟩

end V
end Go.Proofs.Ytblgjcolmaidlaa
