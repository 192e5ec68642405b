/- Closed calls of rank.Cmp; law 13's awake. -/
import Derived.Test.YtkekdfelcfoilaaRankCmp
import Derived.Test.YtkekdfelcfoilaaCapsWords
namespace Go.Proofs.Ytkekdfelcfoilaa
namespace V
set_option maxRecDepth 100000
open Go.RowKit
theorem cmp_eq {x y : Vl} {cs ds : List Value} {w : World} {n : Int} (hc : Vl.at w x cs) (hd : Vl.at w y ds) (h : ord x y = n) :
    Calls Try.prog 14 #[.agg cs.toArray, .agg ds.toArray] w fun e w' => e = .returned (.int .i64 n) ∧ Below w.heap.size w w' := by
  rw [← h]; exact rank_cmp x y cs ds w hc hd
set_option maxHeartbeats 16000000 in
theorem awake13_any (w : World) : Calls Try.prog 8 #[] w fun e w' => e = .returned (.bool true) ∧ Below w.heap.size w w' := by
  go_enter Try.func8, Try.ntmps8
  go_wp2_with fail
  refine (byt_walk 97 (by decide) w).mono ?_
  rintro e w2 ⟨z2, rfl, hat2, hb2⟩
  obtain ⟨k2, y2, a2, len2, cap2, rfl⟩ := at_lit hat2
  have B2 := Lib.hid (hb2)
  have M0_2 := Lib.hid hat2
  clear hat2 hb2
  go_wp2_with fail
  refine (byt_walk 98 (by decide) w2).mono ?_
  rintro e w3 ⟨z3, rfl, hat3, hb3⟩
  obtain ⟨k3, y3, a3, len3, cap3, rfl⟩ := at_lit hat3
  have B3 := Lib.hid (B2.out.trans (hb3.mono B2.out.size))
  have M0_3 := Lib.hid (Vl.at_below hb3 (Nat.le_refl _) _ _ M0_2.out)
  have M1_3 := Lib.hid hat3
  clear hat3 hb3
  go_wp2_with fail
  refine (row_walk M0_3.out M1_3.out).mono ?_
  rintro e w4 ⟨z4, rfl, hat4, hb4⟩
  obtain ⟨k4, y4, a4, len4, cap4, rfl⟩ := at_lit hat4
  have B4 := Lib.hid (B3.out.trans (hb4.mono B3.out.size))
  have M0_4 := Lib.hid (Vl.at_below hb4 (Nat.le_refl _) _ _ M0_3.out)
  have M1_4 := Lib.hid (Vl.at_below hb4 (Nat.le_refl _) _ _ M1_3.out)
  have M2_4 := Lib.hid hat4
  clear hat4 hb4
  go_wp2_with fail
  refine (right_walk M2_4.out).mono ?_
  rintro e w5 ⟨z5, rfl, hat5, hb5⟩
  obtain ⟨k5, y5, a5, len5, cap5, rfl⟩ := at_lit hat5
  have B5 := Lib.hid (B4.out.trans (hb5.mono B4.out.size))
  have M0_5 := Lib.hid (Vl.at_below hb5 (Nat.le_refl _) _ _ M0_4.out)
  have M1_5 := Lib.hid (Vl.at_below hb5 (Nat.le_refl _) _ _ M1_4.out)
  have M2_5 := Lib.hid (Vl.at_below hb5 (Nat.le_refl _) _ _ M2_4.out)
  have M3_5 := Lib.hid hat5
  clear hat5 hb5
  go_wp2_with fail
  refine (byt_walk 97 (by decide) w5).mono ?_
  rintro e w6 ⟨z6, rfl, hat6, hb6⟩
  obtain ⟨k6, y6, a6, len6, cap6, rfl⟩ := at_lit hat6
  have B6 := Lib.hid (B5.out.trans (hb6.mono B5.out.size))
  have M0_6 := Lib.hid (Vl.at_below hb6 (Nat.le_refl _) _ _ M0_5.out)
  have M1_6 := Lib.hid (Vl.at_below hb6 (Nat.le_refl _) _ _ M1_5.out)
  have M2_6 := Lib.hid (Vl.at_below hb6 (Nat.le_refl _) _ _ M2_5.out)
  have M3_6 := Lib.hid (Vl.at_below hb6 (Nat.le_refl _) _ _ M3_5.out)
  have M4_6 := Lib.hid hat6
  clear hat6 hb6
  go_wp2_with fail
  refine (left_walk M4_6.out).mono ?_
  rintro e w7 ⟨z7, rfl, hat7, hb7⟩
  obtain ⟨k7, y7, a7, len7, cap7, rfl⟩ := at_lit hat7
  have B7 := Lib.hid (B6.out.trans (hb7.mono B6.out.size))
  have M0_7 := Lib.hid (Vl.at_below hb7 (Nat.le_refl _) _ _ M0_6.out)
  have M1_7 := Lib.hid (Vl.at_below hb7 (Nat.le_refl _) _ _ M1_6.out)
  have M2_7 := Lib.hid (Vl.at_below hb7 (Nat.le_refl _) _ _ M2_6.out)
  have M3_7 := Lib.hid (Vl.at_below hb7 (Nat.le_refl _) _ _ M3_6.out)
  have M4_7 := Lib.hid (Vl.at_below hb7 (Nat.le_refl _) _ _ M4_6.out)
  have M5_7 := Lib.hid hat7
  clear hat7 hb7
  go_wp2_with fail
  refine (cmp_eq (n := -1) M3_7.out M5_7.out (by decide +kernel)).mono ?_
  rintro e w8 ⟨rfl, hb8⟩
  have B8 := Lib.hid (B7.out.trans (hb8.mono B7.out.size))
  have M0_8 := Lib.hid (Vl.at_below hb8 (Nat.le_refl _) _ _ M0_7.out)
  have M1_8 := Lib.hid (Vl.at_below hb8 (Nat.le_refl _) _ _ M1_7.out)
  have M2_8 := Lib.hid (Vl.at_below hb8 (Nat.le_refl _) _ _ M2_7.out)
  have M3_8 := Lib.hid (Vl.at_below hb8 (Nat.le_refl _) _ _ M3_7.out)
  have M4_8 := Lib.hid (Vl.at_below hb8 (Nat.le_refl _) _ _ M4_7.out)
  have M5_8 := Lib.hid (Vl.at_below hb8 (Nat.le_refl _) _ _ M5_7.out)
  clear hb8
  go_wp2_with fail
  refine (byt_walk 97 (by decide) w8).mono ?_
  rintro e w9 ⟨z9, rfl, hat9, hb9⟩
  obtain ⟨k9, y9, a9, len9, cap9, rfl⟩ := at_lit hat9
  have B9 := Lib.hid (B8.out.trans (hb9.mono B8.out.size))
  have M0_9 := Lib.hid (Vl.at_below hb9 (Nat.le_refl _) _ _ M0_8.out)
  have M1_9 := Lib.hid (Vl.at_below hb9 (Nat.le_refl _) _ _ M1_8.out)
  have M2_9 := Lib.hid (Vl.at_below hb9 (Nat.le_refl _) _ _ M2_8.out)
  have M3_9 := Lib.hid (Vl.at_below hb9 (Nat.le_refl _) _ _ M3_8.out)
  have M4_9 := Lib.hid (Vl.at_below hb9 (Nat.le_refl _) _ _ M4_8.out)
  have M5_9 := Lib.hid (Vl.at_below hb9 (Nat.le_refl _) _ _ M5_8.out)
  have M6_9 := Lib.hid hat9
  clear hat9 hb9
  go_wp2_with fail
  refine (left_walk M6_9.out).mono ?_
  rintro e w10 ⟨z10, rfl, hat10, hb10⟩
  obtain ⟨k10, y10, a10, len10, cap10, rfl⟩ := at_lit hat10
  have B10 := Lib.hid (B9.out.trans (hb10.mono B9.out.size))
  have M0_10 := Lib.hid (Vl.at_below hb10 (Nat.le_refl _) _ _ M0_9.out)
  have M1_10 := Lib.hid (Vl.at_below hb10 (Nat.le_refl _) _ _ M1_9.out)
  have M2_10 := Lib.hid (Vl.at_below hb10 (Nat.le_refl _) _ _ M2_9.out)
  have M3_10 := Lib.hid (Vl.at_below hb10 (Nat.le_refl _) _ _ M3_9.out)
  have M4_10 := Lib.hid (Vl.at_below hb10 (Nat.le_refl _) _ _ M4_9.out)
  have M5_10 := Lib.hid (Vl.at_below hb10 (Nat.le_refl _) _ _ M5_9.out)
  have M6_10 := Lib.hid (Vl.at_below hb10 (Nat.le_refl _) _ _ M6_9.out)
  have M7_10 := Lib.hid hat10
  clear hat10 hb10
  go_wp2_with fail
  refine (byt_walk 97 (by decide) w10).mono ?_
  rintro e w11 ⟨z11, rfl, hat11, hb11⟩
  obtain ⟨k11, y11, a11, len11, cap11, rfl⟩ := at_lit hat11
  have B11 := Lib.hid (B10.out.trans (hb11.mono B10.out.size))
  have M0_11 := Lib.hid (Vl.at_below hb11 (Nat.le_refl _) _ _ M0_10.out)
  have M1_11 := Lib.hid (Vl.at_below hb11 (Nat.le_refl _) _ _ M1_10.out)
  have M2_11 := Lib.hid (Vl.at_below hb11 (Nat.le_refl _) _ _ M2_10.out)
  have M3_11 := Lib.hid (Vl.at_below hb11 (Nat.le_refl _) _ _ M3_10.out)
  have M4_11 := Lib.hid (Vl.at_below hb11 (Nat.le_refl _) _ _ M4_10.out)
  have M5_11 := Lib.hid (Vl.at_below hb11 (Nat.le_refl _) _ _ M5_10.out)
  have M6_11 := Lib.hid (Vl.at_below hb11 (Nat.le_refl _) _ _ M6_10.out)
  have M7_11 := Lib.hid (Vl.at_below hb11 (Nat.le_refl _) _ _ M7_10.out)
  have M8_11 := Lib.hid hat11
  clear hat11 hb11
  go_wp2_with fail
  refine (left_walk M8_11.out).mono ?_
  rintro e w12 ⟨z12, rfl, hat12, hb12⟩
  obtain ⟨k12, y12, a12, len12, cap12, rfl⟩ := at_lit hat12
  have B12 := Lib.hid (B11.out.trans (hb12.mono B11.out.size))
  have M0_12 := Lib.hid (Vl.at_below hb12 (Nat.le_refl _) _ _ M0_11.out)
  have M1_12 := Lib.hid (Vl.at_below hb12 (Nat.le_refl _) _ _ M1_11.out)
  have M2_12 := Lib.hid (Vl.at_below hb12 (Nat.le_refl _) _ _ M2_11.out)
  have M3_12 := Lib.hid (Vl.at_below hb12 (Nat.le_refl _) _ _ M3_11.out)
  have M4_12 := Lib.hid (Vl.at_below hb12 (Nat.le_refl _) _ _ M4_11.out)
  have M5_12 := Lib.hid (Vl.at_below hb12 (Nat.le_refl _) _ _ M5_11.out)
  have M6_12 := Lib.hid (Vl.at_below hb12 (Nat.le_refl _) _ _ M6_11.out)
  have M7_12 := Lib.hid (Vl.at_below hb12 (Nat.le_refl _) _ _ M7_11.out)
  have M8_12 := Lib.hid (Vl.at_below hb12 (Nat.le_refl _) _ _ M8_11.out)
  have M9_12 := Lib.hid hat12
  clear hat12 hb12
  go_wp2_with fail
  refine (cmp_eq (n := 0) M7_12.out M9_12.out (by decide +kernel)).mono ?_
  rintro e w13 ⟨rfl, hb13⟩
  have B13 := Lib.hid (B12.out.trans (hb13.mono B12.out.size))
  have M0_13 := Lib.hid (Vl.at_below hb13 (Nat.le_refl _) _ _ M0_12.out)
  have M1_13 := Lib.hid (Vl.at_below hb13 (Nat.le_refl _) _ _ M1_12.out)
  have M2_13 := Lib.hid (Vl.at_below hb13 (Nat.le_refl _) _ _ M2_12.out)
  have M3_13 := Lib.hid (Vl.at_below hb13 (Nat.le_refl _) _ _ M3_12.out)
  have M4_13 := Lib.hid (Vl.at_below hb13 (Nat.le_refl _) _ _ M4_12.out)
  have M5_13 := Lib.hid (Vl.at_below hb13 (Nat.le_refl _) _ _ M5_12.out)
  have M6_13 := Lib.hid (Vl.at_below hb13 (Nat.le_refl _) _ _ M6_12.out)
  have M7_13 := Lib.hid (Vl.at_below hb13 (Nat.le_refl _) _ _ M7_12.out)
  have M8_13 := Lib.hid (Vl.at_below hb13 (Nat.le_refl _) _ _ M8_12.out)
  have M9_13 := Lib.hid (Vl.at_below hb13 (Nat.le_refl _) _ _ M9_12.out)
  clear hb13
  go_wp2_with fail
  go_ret
  exact ⟨rfl, B13.out⟩
end V
end Go.Proofs.Ytkekdfelcfoilaa
