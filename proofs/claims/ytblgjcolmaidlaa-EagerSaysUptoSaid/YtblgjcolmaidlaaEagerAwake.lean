/- Closed calls of eager.Cmp, eager.Apart, eager.Best; law 14's awake. -/
import Derived.Test.YtblgjcolmaidlaaEagerCmp
import Derived.Test.YtblgjcolmaidlaaCapsWords
namespace Go.Proofs.Ytblgjcolmaidlaa
namespace V
set_option maxRecDepth 100000
open Go.RowKit
def fitB (x : Vl) : Bool := decide (x.count ≤ 1099511627776)
theorem fit_of {x : Vl} (h : fitB x = true) : Fit x := of_decide_eq_true h
theorem ecmp_eq {x y : Vl} {cs ds : List Value} {w : World} {n : Int} (hc : Vl.at w x cs) (hd : Vl.at w y ds) (h : (fitB x && fitB y && decide (eord x y = n)) = true) :
    Calls Try.prog 11 #[.agg cs.toArray, .agg ds.toArray] w fun e w' => e = .returned (.int .i64 n) ∧ Below w.heap.size w w' := by
  rw [Bool.and_eq_true, Bool.and_eq_true, decide_eq_true_eq] at h
  rw [← h.2]; exact eager_cmp x y cs ds w hc hd (fit_of h.1.1) (fit_of h.1.2)
theorem eapart_eq {x y : Vl} {cs ds : List Value} {w : World} {n : Int} (hc : Vl.at w x cs) (hd : Vl.at w y ds) (h : (fitB x && fitB y && decide (eapart x y = n)) = true) :
    Calls Try.prog 12 #[.agg cs.toArray, .agg ds.toArray] w fun e w' => e = .returned (.int .i64 n) ∧ Below w.heap.size w w' := by
  rw [Bool.and_eq_true, Bool.and_eq_true, decide_eq_true_eq] at h
  rw [← h.2]; exact eager_apart x y cs ds w hc hd (fit_of h.1.1) (fit_of h.1.2)
theorem ebest_eq {l : List Vl} {v : Value} {w : World} {i : Nat} (hl : ListAt w l v) (h : (decide (0 < l.length) && l.all fitB && decide (ebst (l.map Vl.put) (l.length - 1) = i)) = true) :
    Calls Try.prog 9 #[v] w fun e w' => e = .returned (.tuple #[.int .i64 i, .bool true]) ∧ Below w.heap.size w w' := by
  simp only [Bool.and_eq_true, decide_eq_true_eq, List.all_eq_true] at h
  rw [← h.2]
  exact ebest_some h.1.1 (fun x hx => fit_of (h.1.2 x hx)) hl
theorem fit_up {x : Vl} (h : x.count ≤ 1048576) : Fit x := Nat.le_trans h (by decide)
set_option maxHeartbeats 16000000 in
theorem awake14_any (w : World) : Calls Try.prog 7 #[] w fun e w' => e = .returned (.bool true) ∧ Below w.heap.size w w' := by
  go_enter Try.func7, Try.ntmps7
  go_wp2_with fail
  refine (byt_walk 97 (by decide) w).mono ?_
  rintro e w2 ⟨z2, rfl, hat2, hb2⟩
  obtain ⟨k2, y2, a2, len2, cap2, rfl⟩ := at_lit hat2
  have B2 := Lib.hid (hb2)
  have M0_2 := Lib.hid hat2
  clear hat2 hb2
  go_wp2_with fail
  refine (left_walk M0_2.out).mono ?_
  rintro e w3 ⟨z3, rfl, hat3, hb3⟩
  obtain ⟨k3, y3, a3, len3, cap3, rfl⟩ := at_lit hat3
  have B3 := Lib.hid (B2.out.trans (hb3.mono B2.out.size))
  have M0_3 := Lib.hid (Vl.at_below hb3 (Nat.le_refl _) _ _ M0_2.out)
  have M1_3 := Lib.hid hat3
  clear hat3 hb3
  go_wp2_with fail
  refine (byt_walk 97 (by decide) w3).mono ?_
  rintro e w4 ⟨z4, rfl, hat4, hb4⟩
  obtain ⟨k4, y4, a4, len4, cap4, rfl⟩ := at_lit hat4
  have B4 := Lib.hid (B3.out.trans (hb4.mono B3.out.size))
  have M0_4 := Lib.hid (Vl.at_below hb4 (Nat.le_refl _) _ _ M0_3.out)
  have M1_4 := Lib.hid (Vl.at_below hb4 (Nat.le_refl _) _ _ M1_3.out)
  have M2_4 := Lib.hid hat4
  clear hat4 hb4
  go_wp2_with fail
  refine (byt_walk 98 (by decide) w4).mono ?_
  rintro e w5 ⟨z5, rfl, hat5, hb5⟩
  obtain ⟨k5, y5, a5, len5, cap5, rfl⟩ := at_lit hat5
  have B5 := Lib.hid (B4.out.trans (hb5.mono B4.out.size))
  have M0_5 := Lib.hid (Vl.at_below hb5 (Nat.le_refl _) _ _ M0_4.out)
  have M1_5 := Lib.hid (Vl.at_below hb5 (Nat.le_refl _) _ _ M1_4.out)
  have M2_5 := Lib.hid (Vl.at_below hb5 (Nat.le_refl _) _ _ M2_4.out)
  have M3_5 := Lib.hid hat5
  clear hat5 hb5
  obtain ⟨w6, hw6⟩ : ∃ w6, w6 = w5.alloc (.cells #[.int .i64 k4, .int .u8 y4, .slice a4 len4 cap4, .int .i64 k5, .int .u8 y5, .slice a5 len5 cap5] 25) := ⟨_, rfl⟩
  have hb6 : Below w5.heap.size w5 w6 := by rw [hw6]; exact (Below.refl _ _).alloc (Nat.le_refl _) _
  have B6 := Lib.hid (B5.out.trans (hb6.mono B5.out.size))
  have M0_6 := Lib.hid (Vl.at_below hb6 (Nat.le_refl _) _ _ M0_5.out)
  have M1_6 := Lib.hid (Vl.at_below hb6 (Nat.le_refl _) _ _ M1_5.out)
  have M2_6 := Lib.hid (Vl.at_below hb6 (Nat.le_refl _) _ _ M2_5.out)
  have M3_6 := Lib.hid (Vl.at_below hb6 (Nat.le_refl _) _ _ M3_5.out)
  have hat6 : Vl.at w6 (.mk 3 0 [(.mk 2 97 []), (.mk 2 98 [])]) [.int .i64 3, .int .u8 0, .slice (some ⟨w5.heap.size, 0, none⟩) 2 2] := by
    refine at_made (k := 3) (z := 0) (b := w5.heap.size) rfl (by decide) [((.mk 2 97 []), [.int .i64 k4, .int .u8 y4, .slice a4 len4 cap4]), ((.mk 2 98 []), [.int .i64 k5, .int .u8 y5, .slice a5 len5 cap5])] (by show 2 ≤ maxLen; decide) ?_ (by rw [hw6]; exact World.alloc_heap_new _ _)
    intro p hp
    simp only [List.mem_cons, List.not_mem_nil, or_false] at hp
    rcases hp with rfl | rfl
    · exact M2_6.out
    · exact M3_6.out
  have M4_6 := Lib.hid hat6
  clear hat6 hb6
  go_wp2_with (first | (go_at_call 10; rw [← hw6]; clear hw6; refine Hid.out ?_))
  refine Lib.hid ?_
  refine (right_walk M4_6.out).mono ?_
  rintro e w7 ⟨z7, rfl, hat7, hb7⟩
  obtain ⟨k7, y7, a7, len7, cap7, rfl⟩ := at_lit hat7
  have B7 := Lib.hid (B6.out.trans (hb7.mono B6.out.size))
  have M0_7 := Lib.hid (Vl.at_below hb7 (Nat.le_refl _) _ _ M0_6.out)
  have M1_7 := Lib.hid (Vl.at_below hb7 (Nat.le_refl _) _ _ M1_6.out)
  have M2_7 := Lib.hid (Vl.at_below hb7 (Nat.le_refl _) _ _ M2_6.out)
  have M3_7 := Lib.hid (Vl.at_below hb7 (Nat.le_refl _) _ _ M3_6.out)
  have M4_7 := Lib.hid (Vl.at_below hb7 (Nat.le_refl _) _ _ M4_6.out)
  have M5_7 := Lib.hid hat7
  clear hat7 hb7
  go_wp2_with fail
  refine (ecmp_eq (n := -1) M1_7.out M5_7.out (by decide +kernel)).mono ?_
  rintro e w8 ⟨rfl, hb8⟩
  have B8 := Lib.hid (B7.out.trans (hb8.mono B7.out.size))
  have M0_8 := Lib.hid (Vl.at_below hb8 (Nat.le_refl _) _ _ M0_7.out)
  have M1_8 := Lib.hid (Vl.at_below hb8 (Nat.le_refl _) _ _ M1_7.out)
  have M2_8 := Lib.hid (Vl.at_below hb8 (Nat.le_refl _) _ _ M2_7.out)
  have M3_8 := Lib.hid (Vl.at_below hb8 (Nat.le_refl _) _ _ M3_7.out)
  have M4_8 := Lib.hid (Vl.at_below hb8 (Nat.le_refl _) _ _ M4_7.out)
  have M5_8 := Lib.hid (Vl.at_below hb8 (Nat.le_refl _) _ _ M5_7.out)
  clear hb8
  go_wp2_with fail
  refine (byt_walk 97 (by decide) w8).mono ?_
  rintro e w9 ⟨z9, rfl, hat9, hb9⟩
  obtain ⟨k9, y9, a9, len9, cap9, rfl⟩ := at_lit hat9
  have B9 := Lib.hid (B8.out.trans (hb9.mono B8.out.size))
  have M0_9 := Lib.hid (Vl.at_below hb9 (Nat.le_refl _) _ _ M0_8.out)
  have M1_9 := Lib.hid (Vl.at_below hb9 (Nat.le_refl _) _ _ M1_8.out)
  have M2_9 := Lib.hid (Vl.at_below hb9 (Nat.le_refl _) _ _ M2_8.out)
  have M3_9 := Lib.hid (Vl.at_below hb9 (Nat.le_refl _) _ _ M3_8.out)
  have M4_9 := Lib.hid (Vl.at_below hb9 (Nat.le_refl _) _ _ M4_8.out)
  have M5_9 := Lib.hid (Vl.at_below hb9 (Nat.le_refl _) _ _ M5_8.out)
  have M6_9 := Lib.hid hat9
  clear hat9 hb9
  go_wp2_with fail
  refine (left_walk M6_9.out).mono ?_
  rintro e w10 ⟨z10, rfl, hat10, hb10⟩
  obtain ⟨k10, y10, a10, len10, cap10, rfl⟩ := at_lit hat10
  have B10 := Lib.hid (B9.out.trans (hb10.mono B9.out.size))
  have M0_10 := Lib.hid (Vl.at_below hb10 (Nat.le_refl _) _ _ M0_9.out)
  have M1_10 := Lib.hid (Vl.at_below hb10 (Nat.le_refl _) _ _ M1_9.out)
  have M2_10 := Lib.hid (Vl.at_below hb10 (Nat.le_refl _) _ _ M2_9.out)
  have M3_10 := Lib.hid (Vl.at_below hb10 (Nat.le_refl _) _ _ M3_9.out)
  have M4_10 := Lib.hid (Vl.at_below hb10 (Nat.le_refl _) _ _ M4_9.out)
  have M5_10 := Lib.hid (Vl.at_below hb10 (Nat.le_refl _) _ _ M5_9.out)
  have M6_10 := Lib.hid (Vl.at_below hb10 (Nat.le_refl _) _ _ M6_9.out)
  have M7_10 := Lib.hid hat10
  clear hat10 hb10
  go_wp2_with fail
  refine (byt_walk 97 (by decide) w10).mono ?_
  rintro e w11 ⟨z11, rfl, hat11, hb11⟩
  obtain ⟨k11, y11, a11, len11, cap11, rfl⟩ := at_lit hat11
  have B11 := Lib.hid (B10.out.trans (hb11.mono B10.out.size))
  have M0_11 := Lib.hid (Vl.at_below hb11 (Nat.le_refl _) _ _ M0_10.out)
  have M1_11 := Lib.hid (Vl.at_below hb11 (Nat.le_refl _) _ _ M1_10.out)
  have M2_11 := Lib.hid (Vl.at_below hb11 (Nat.le_refl _) _ _ M2_10.out)
  have M3_11 := Lib.hid (Vl.at_below hb11 (Nat.le_refl _) _ _ M3_10.out)
  have M4_11 := Lib.hid (Vl.at_below hb11 (Nat.le_refl _) _ _ M4_10.out)
  have M5_11 := Lib.hid (Vl.at_below hb11 (Nat.le_refl _) _ _ M5_10.out)
  have M6_11 := Lib.hid (Vl.at_below hb11 (Nat.le_refl _) _ _ M6_10.out)
  have M7_11 := Lib.hid (Vl.at_below hb11 (Nat.le_refl _) _ _ M7_10.out)
  have M8_11 := Lib.hid hat11
  clear hat11 hb11
  go_wp2_with fail
  refine (left_walk M8_11.out).mono ?_
  rintro e w12 ⟨z12, rfl, hat12, hb12⟩
  obtain ⟨k12, y12, a12, len12, cap12, rfl⟩ := at_lit hat12
  have B12 := Lib.hid (B11.out.trans (hb12.mono B11.out.size))
  have M0_12 := Lib.hid (Vl.at_below hb12 (Nat.le_refl _) _ _ M0_11.out)
  have M1_12 := Lib.hid (Vl.at_below hb12 (Nat.le_refl _) _ _ M1_11.out)
  have M2_12 := Lib.hid (Vl.at_below hb12 (Nat.le_refl _) _ _ M2_11.out)
  have M3_12 := Lib.hid (Vl.at_below hb12 (Nat.le_refl _) _ _ M3_11.out)
  have M4_12 := Lib.hid (Vl.at_below hb12 (Nat.le_refl _) _ _ M4_11.out)
  have M5_12 := Lib.hid (Vl.at_below hb12 (Nat.le_refl _) _ _ M5_11.out)
  have M6_12 := Lib.hid (Vl.at_below hb12 (Nat.le_refl _) _ _ M6_11.out)
  have M7_12 := Lib.hid (Vl.at_below hb12 (Nat.le_refl _) _ _ M7_11.out)
  have M8_12 := Lib.hid (Vl.at_below hb12 (Nat.le_refl _) _ _ M8_11.out)
  have M9_12 := Lib.hid hat12
  clear hat12 hb12
  go_wp2_with fail
  refine (eapart_eq (n := -1) M7_12.out M9_12.out (by decide +kernel)).mono ?_
  rintro e w13 ⟨rfl, hb13⟩
  have B13 := Lib.hid (B12.out.trans (hb13.mono B12.out.size))
  have M0_13 := Lib.hid (Vl.at_below hb13 (Nat.le_refl _) _ _ M0_12.out)
  have M1_13 := Lib.hid (Vl.at_below hb13 (Nat.le_refl _) _ _ M1_12.out)
  have M2_13 := Lib.hid (Vl.at_below hb13 (Nat.le_refl _) _ _ M2_12.out)
  have M3_13 := Lib.hid (Vl.at_below hb13 (Nat.le_refl _) _ _ M3_12.out)
  have M4_13 := Lib.hid (Vl.at_below hb13 (Nat.le_refl _) _ _ M4_12.out)
  have M5_13 := Lib.hid (Vl.at_below hb13 (Nat.le_refl _) _ _ M5_12.out)
  have M6_13 := Lib.hid (Vl.at_below hb13 (Nat.le_refl _) _ _ M6_12.out)
  have M7_13 := Lib.hid (Vl.at_below hb13 (Nat.le_refl _) _ _ M7_12.out)
  have M8_13 := Lib.hid (Vl.at_below hb13 (Nat.le_refl _) _ _ M8_12.out)
  have M9_13 := Lib.hid (Vl.at_below hb13 (Nat.le_refl _) _ _ M9_12.out)
  clear hb13
  go_wp2_with fail
  go_ret
  exact ⟨rfl, B13.out⟩
end V
end Go.Proofs.Ytblgjcolmaidlaa
