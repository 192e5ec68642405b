/- The walk of law 7's PrintBack. -/
import Derived.Test.YtjkhmmdjgancmaaGreatDoorPrintWhole
namespace Go.Proofs.YtjkhmmdjgancmaaGreatDoor
set_option maxRecDepth 100000
open Go.RowKit
theorem err_all {q : List Nat} {k e : Int} (h : ofP cls q = .err k e) : ¬ e = 0 := of_err h
set_option maxHeartbeats 8000000 in
theorem printBack_walk (st en : Bool) (x : Nd) (cs : List Value) (gr : Int) (_hg : fits64 gr) (w : World) (hat : Nd.at w x cs) (hT : TabAt 0 Lib.deBruijn64tab w) (hP : PowAt w) (hM : MaxAt w) :
    Calls Tryz.prog 4 #[.agg (.bool st :: .bool en :: (cs ++ [.int .i64 gr])).toArray] w fun e w' => e = .returned (.bool true) ∧ Below w.heap.size w w' := by
  have htw := fun (w' : World) (hb : Below w.heap.size w w') => text_walk st en (gr := gr) (Nd.at_below hb (Nat.le_refl _) _ _ hat) (tab_below hT hb (tab_pos hT)) (pow_below hP hb)
  have hgd := fun (w' : World) (hb : Below w.heap.size w w') => good_walk st en gr (Nd.at_below hb (Nat.le_refl _) _ _ hat)
  have hhv := fun (w' : World) (hb : Below w.heap.size w w') => heavy_any 70 x cs w' (by decide) (Nd.at_below hb (Nat.le_refl _) _ _ hat)
  obtain ⟨kq, sq, loq, hiq, nq, aq, lenq, capq, rfl⟩ := at_lit hat
  simp only [patCells, List.cons_append, List.nil_append] at htw hgd
  simp only [List.cons_append, List.nil_append]
  obtain ⟨hv, hhvv⟩ : ∃ hv, hv = heavyN 70 x := ⟨_, rfl⟩
  rw [← hhvv] at hhv
  have Htw := Lib.hid htw
  have Hgd := Lib.hid hgd
  have Hhv := Lib.hid hhv
  have Hat := Lib.hid hat
  have HT := Lib.hid (And.intro hT (And.intro hP hM))
  obtain ⟨W, hW⟩ : ∃ W, W = w.alloc (.cells #[.bool st, .bool en, .int .i64 kq, .int .u64 (word sq 0), .int .u64 (word sq 1), .int .u64 (word sq 2), .int .u64 (word sq 3), .int .i64 loq, .int .i64 hiq, .int .i64 nq, .slice aq lenq capq, .int .i64 gr] 36) := ⟨_, rfl⟩
  have hal : Below w.heap.size w W := by rw [hW]; exact (Below.refl _ _).alloc (Nat.le_refl _) _
  have hpat : PatIn W w.heap.size #[.bool st, .bool en, .int .i64 kq, .int .u64 (word sq 0), .int .u64 (word sq 1), .int .u64 (word sq 2), .int .u64 (word sq 3), .int .i64 loq, .int .i64 hiq, .int .i64 nq, .slice aq lenq capq, .int .i64 gr] := by rw [hW]; exact pat_new w _
  have Hal := Lib.hid hal
  have Hpat := Lib.hid hpat
  clear htw hgd hhv hat hT hP hM hal hpat hhvv
  go_enter Tryz.func4, Tryz.ntmps4
  go_upto_region 1 with fail
  rw [← hW]
  clear hW
  go_wp2_with fail
  refine (awake7_any _ (tab_below HT.out.1 Hal.out (tab_pos HT.out.1))).mono ?_
  rintro e w1 ⟨rfl, hb1⟩
  have Hp1 := Lib.hid (pat_keep Hpat.out hb1)
  have Hb1 := Lib.hid (Hal.out.trans (hb1.mono Hal.out.size))
  have H91 := Lib.hid (node9_pat Hp1.out)
  clear hb1
  go_wp2_with (first | (refine wpList_load_node rfl _ rfl w.heap.size 2 _ rfl H91.out ?_))
  refine (Hhv.out _ Hb1.out).mono ?_
  rintro e w2 ⟨rfl, hb2⟩
  have Hp2 := Lib.hid (pat_keep Hp1.out hb2)
  have Hb2 := Lib.hid (Hb1.out.trans (hb2.mono Hb1.out.size))
  clear hb2
  cases hv
  case true =>
    go_wp2_with fail
    go_ret
    exact ⟨rfl, Hb2.out⟩
  go_wp2_with (first | (refine wpList_load_pat rfl _ rfl w.heap.size _ rfl Hp2.out rfl ?_))
  refine (Htw.out _ Hb2.out).mono ?_
  rintro e w3 ⟨⟨t, rfl, ht⟩, hb3⟩
  have Hp3 := Lib.hid (pat_keep Hp2.out hb3)
  have Hb3 := Lib.hid (Hb2.out.trans (hb3.mono Hb2.out.size))
  clear hb3
  have hgd3 := Hgd.out _ Hb3.out
  cases hq : goodP x gr with
  | false =>
    have hto : textOf st en x gr = ([], 1) := by unfold textOf; rw [hq]; rfl
    rw [hto]
    rw [hq] at hgd3
    have Hgd3 := Lib.hid hgd3
    clear hgd3 hto hq ht
    go_wp2_with (first
      | (refine wpList_load_pat rfl _ rfl w.heap.size _ rfl Hp3.out rfl ?_)
      | (go_at_call 16; refine Hgd3.out.mono ?_; rintro e w4 ⟨rfl, hb4⟩; have Hb4 := Lib.hid hb4; clear hb4))
    go_ret
    exact ⟨rfl, Hb3.out.trans (Hb4.out.mono Hb3.out.size)⟩
  | true =>
    by_cases hlen : 1024 < (flagT st en x).length
    · have hto : textOf st en x gr = ([], 4) := by unfold textOf; rw [hq, if_pos hlen]; rfl
      rw [hto]
      rw [hq] at hgd3
      have Hgd3 := Lib.hid hgd3
      clear hgd3 hto hq ht hlen
      go_wp2_with (first
        | (refine wpList_load_pat rfl _ rfl w.heap.size _ rfl Hp3.out rfl ?_)
        | (go_at_call 16; refine Hgd3.out.mono ?_; rintro e w4 ⟨rfl, hb4⟩; have Hb4 := Lib.hid hb4; clear hb4))
      go_ret
      exact ⟨rfl, Hb3.out.trans (Hb4.out.mono Hb3.out.size)⟩
    · have hto : textOf st en x gr = (flagT st en x, 0) := by unfold textOf; rw [hq, if_neg hlen]; rfl
      rw [hto] at ht ⊢
      obtain ⟨g, rfl, hof⟩ := text_back hq st en (by omega)
      have hofw := of_walk t w3 (maxAt_below HT.out.2.2 Hb3.out)
      rw [show nats t = flagT st en x from ht, hof] at hofw
      have Hofw := Lib.hid hofw
      clear hgd3 hto hq ht hlen hof hofw
      go_wp2_with fail
      refine Hofw.out.mono ?_
      rintro e w4 ⟨cs4, rfl, hat4, hb4⟩
      obtain ⟨k4, s4, lo4, hi4, n4, a4, len4, cap4, rfl⟩ := at_lit hat4
      simp only [patCells, List.cons_append, List.nil_append]
      obtain ⟨W5, hW5⟩ : ∃ W5, W5 = w4.alloc (.cells #[.bool st, .bool en, .int .i64 k4, .int .u64 (word s4 0), .int .u64 (word s4 1), .int .u64 (word s4 2), .int .u64 (word s4 3), .int .i64 lo4, .int .i64 hi4, .int .i64 n4, .slice a4 len4 cap4, .int .i64 (g : Int)] 36) := ⟨_, rfl⟩
      have hal5 : Below w4.heap.size w4 W5 := by rw [hW5]; exact (Below.refl _ _).alloc (Nat.le_refl _) _
      have hp5 : PatIn W5 w4.heap.size #[.bool st, .bool en, .int .i64 k4, .int .u64 (word s4 0), .int .u64 (word s4 1), .int .u64 (word s4 2), .int .u64 (word s4 3), .int .i64 lo4, .int .i64 hi4, .int .i64 n4, .slice a4 len4 cap4, .int .i64 (g : Int)] := by rw [hW5]; exact pat_new w4 _
      have hb45 := hb4.trans (hal5.mono hb4.size)
      have hp1 := pat_keep Hp3.out hb45
      have hbw5 := Hb3.out.trans (hb45.mono Hb3.out.size)
      have hsm := same_any x.count x x _ _ W5 (Nat.le_refl _) (Nd.at_below hal5 (Nat.le_refl _) _ _ hat4) (Nd.at_below hbw5 (Nat.le_refl _) _ _ Hat.out)
      rw [Nd.same_refl] at hsm
      have b0 : W5.cell? ⟨w4.heap.size, 0, none⟩ = some (.bool st) := by rw [cells_at hp5]; rfl
      have b1 : W5.cell? ⟨w4.heap.size, 1, none⟩ = some (.bool en) := by rw [cells_at hp5]; rfl
      have b11 : W5.cell? ⟨w4.heap.size, 11, none⟩ = some (.int .i64 (g : Int)) := by rw [cells_at hp5]; rfl
      have c0 : W5.cell? ⟨w.heap.size, 0, none⟩ = some (.bool st) := by rw [cells_at hp1]; rfl
      have c1 : W5.cell? ⟨w.heap.size, 1, none⟩ = some (.bool en) := by rw [cells_at hp1]; rfl
      have c11 : W5.cell? ⟨w.heap.size, 11, none⟩ = some (.int .i64 (g : Int)) := by rw [cells_at hp1]; rfl
      have Hn5 := Lib.hid (node9_pat hp5)
      have Hn1 := Lib.hid (node9_pat hp1)
      have Hsm := Lib.hid hsm
      have Hbw5 := Lib.hid hbw5
      clear hat4 hb4 hal5 hp5 hb45 hp1 hbw5 hsm
      go_upto_region 9 with fail
      rw [← hW5]
      clear hW5
      go_wp2_with (first
        | (refine wpList_load_node_want rfl _ rfl w4.heap.size 2 _ rfl Hn5.out ?_)
        | (refine wpList_load_node_want rfl _ rfl w.heap.size 2 _ rfl Hn1.out ?_)
        | (go_at_call 17; refine Hsm.out.mono ?_; rintro e w6 ⟨rfl, hb6⟩; have Hb6 := Lib.hid hb6; clear hb6)
        | fail)
      go_ret
      exact ⟨rfl, Hbw5.out.trans (Hb6.out.mono Hbw5.out.size)⟩
end Go.Proofs.YtjkhmmdjgancmaaGreatDoor
