/- The law EagerKnown, walked. -/
import Derived.Test.YtblgjcolmaidlaaEagerAwake
import Derived.Test.YtblgjcolmaidlaaAnyGuard
import Derived.Test.YtblgjcolmaidlaaClosed
namespace Go.Proofs.Ytblgjcolmaidlaa
namespace V
set_option maxRecDepth 100000
open Go.RowKit
def kE4 (_B0 : Nat) : List Fact := [
  isVal (Vl.mk 6 0 []),
  isVal (Vl.mk 6 0 [(Vl.mk 2 97 [])]),
  isVal (Vl.mk 6 0 [(Vl.mk 2 97 [])]),
  isVal (Vl.mk 5 0 [(Vl.mk 6 0 [(Vl.mk 2 97 [])])]),
  isVal (Vl.mk 6 0 [(Vl.mk 2 97 [])]),
  isVals [(Vl.mk 6 0 []), (Vl.mk 6 0 [(Vl.mk 2 97 [])]), (Vl.mk 5 0 [(Vl.mk 6 0 [(Vl.mk 2 97 [])])]), (Vl.mk 6 0 [(Vl.mk 2 97 [])])],
  isEq (.tuple #[.int .i64 1, .bool true]),
  isEq (.tuple #[.int .i64 1, .bool true]),
  isEq (.int .i64 1),
  isEq (.bool true),
  isEq (.int .i64 1),
  isEq (.bool true)]
theorem kE4_stable (B0 : Nat) : AllG (fun _ P => Stable P) 0 (kE4 B0) := by
  unfold kE4
  refine AllG.cons (k' := 1) rfl (isVal.stable _) ?_
  refine AllG.cons (k' := 2) rfl (isVal.stable _) ?_
  refine AllG.cons (k' := 3) rfl (isVal.stable _) ?_
  refine AllG.cons (k' := 4) rfl (isVal.stable _) ?_
  refine AllG.cons (k' := 5) rfl (isVal.stable _) ?_
  refine AllG.cons (k' := 6) rfl (isVals.stable _) ?_
  refine AllG.cons (k' := 7) rfl (isEq.stable _) ?_
  refine AllG.cons (k' := 8) rfl (isEq.stable _) ?_
  refine AllG.cons (k' := 9) rfl (isEq.stable _) ?_
  refine AllG.cons (k' := 10) rfl (isEq.stable _) ?_
  refine AllG.cons (k' := 11) rfl (isEq.stable _) ?_
  refine AllG.cons (k' := 12) rfl (isEq.stable _) ?_
  exact AllG.nil
def kE6 (_B0 : Nat) : List Fact := [
  isVal (Vl.mk 6 0 [(Vl.mk 2 97 [])]),
  isVal (Vl.mk 6 0 []),
  isEq (.int .i64 (-1)),
  isEq (.bool true),
  isEq (.bool true),
  isVal (Vl.mk 6 0 []),
  isVal (Vl.mk 6 0 [(Vl.mk 2 97 [])]),
  isEq (.int .i64 (1)),
  isEq (.bool true),
  isEq (.bool true),
  isEq (.bool true),
  isVal (Vl.mk 2 97 []),
  isVal (Vl.mk 2 98 []),
  isEq (.int .i64 (0)),
  isEq (.bool true),
  isEq (.bool true),
  isEq (.bool true),
  isVal (Vl.mk 2 97 []),
  isVal (Vl.mk 6 0 []),
  isEq (.int .i64 (-1)),
  isEq (.bool true),
  isEq (.bool true),
  isEq (.bool true),
  isEq (.bool true),
  isEq (.bool true),
  isEq (.bool true),
  isEq (.int .i64 1),
  isEq (.bool true),
  isEq (.bool true),
  isEq (.bool true),
  isEq (.bool false),
  isEq (.bool true),
  isEq (.bool true),
  isEq (.bool true),
  isVal (Vl.mk 6 0 [(Vl.mk 2 97 [])]),
  isVal (Vl.mk 6 0 []),
  isEq (.int .i64 (0)),
  isEq (.bool true),
  isEq (.bool true),
  isEq (.bool true),
  isVal (Vl.mk 2 97 []),
  isVal (Vl.mk 4 0 [(Vl.mk 2 97 [])]),
  isVal (Vl.mk 4 0 [(Vl.mk 4 0 [(Vl.mk 2 97 [])])]),
  isVal (Vl.mk 2 97 []),
  isVal (Vl.mk 5 0 [(Vl.mk 2 97 [])]),
  isVal (Vl.mk 4 0 [(Vl.mk 5 0 [(Vl.mk 2 97 [])])]),
  isEq (.int .i64 (1)),
  isEq (.bool true),
  isEq (.bool true),
  isEq (.bool true),
  isVal (Vl.mk 2 97 []),
  isVal (Vl.mk 4 0 [(Vl.mk 2 97 [])]),
  isVal (Vl.mk 6 0 []),
  isVal (Vl.mk 4 0 [(Vl.mk 6 0 [])]),
  isEq (.int .i64 (1)),
  isEq (.bool true),
  isEq (.bool true),
  isEq (.bool true),
  isVal (Vl.mk 2 97 []),
  isVal (Vl.mk 6 0 []),
  isEq (.int .i64 (0)),
  isEq (.bool true),
  isEq (.bool true),
  isEq (.bool true)]
theorem kE6_stable (B0 : Nat) : AllG (fun _ P => Stable P) 0 (kE6 B0) := by
  unfold kE6
  refine AllG.cons (k' := 1) rfl (isVal.stable _) ?_
  refine AllG.cons (k' := 2) rfl (isVal.stable _) ?_
  refine AllG.cons (k' := 3) rfl (isEq.stable _) ?_
  refine AllG.cons (k' := 4) rfl (isEq.stable _) ?_
  refine AllG.cons (k' := 5) rfl (isEq.stable _) ?_
  refine AllG.cons (k' := 6) rfl (isVal.stable _) ?_
  refine AllG.cons (k' := 7) rfl (isVal.stable _) ?_
  refine AllG.cons (k' := 8) rfl (isEq.stable _) ?_
  refine AllG.cons (k' := 9) rfl (isEq.stable _) ?_
  refine AllG.cons (k' := 10) rfl (isEq.stable _) ?_
  refine AllG.cons (k' := 11) rfl (isEq.stable _) ?_
  refine AllG.cons (k' := 12) rfl (isVal.stable _) ?_
  refine AllG.cons (k' := 13) rfl (isVal.stable _) ?_
  refine AllG.cons (k' := 14) rfl (isEq.stable _) ?_
  refine AllG.cons (k' := 15) rfl (isEq.stable _) ?_
  refine AllG.cons (k' := 16) rfl (isEq.stable _) ?_
  refine AllG.cons (k' := 17) rfl (isEq.stable _) ?_
  refine AllG.cons (k' := 18) rfl (isVal.stable _) ?_
  refine AllG.cons (k' := 19) rfl (isVal.stable _) ?_
  refine AllG.cons (k' := 20) rfl (isEq.stable _) ?_
  refine AllG.cons (k' := 21) rfl (isEq.stable _) ?_
  refine AllG.cons (k' := 22) rfl (isEq.stable _) ?_
  refine AllG.cons (k' := 23) rfl (isEq.stable _) ?_
  refine AllG.cons (k' := 24) rfl (isEq.stable _) ?_
  refine AllG.cons (k' := 25) rfl (isEq.stable _) ?_
  refine AllG.cons (k' := 26) rfl (isEq.stable _) ?_
  refine AllG.cons (k' := 27) rfl (isEq.stable _) ?_
  refine AllG.cons (k' := 28) rfl (isEq.stable _) ?_
  refine AllG.cons (k' := 29) rfl (isEq.stable _) ?_
  refine AllG.cons (k' := 30) rfl (isEq.stable _) ?_
  refine AllG.cons (k' := 31) rfl (isEq.stable _) ?_
  refine AllG.cons (k' := 32) rfl (isEq.stable _) ?_
  refine AllG.cons (k' := 33) rfl (isEq.stable _) ?_
  refine AllG.cons (k' := 34) rfl (isEq.stable _) ?_
  refine AllG.cons (k' := 35) rfl (isVal.stable _) ?_
  refine AllG.cons (k' := 36) rfl (isVal.stable _) ?_
  refine AllG.cons (k' := 37) rfl (isEq.stable _) ?_
  refine AllG.cons (k' := 38) rfl (isEq.stable _) ?_
  refine AllG.cons (k' := 39) rfl (isEq.stable _) ?_
  refine AllG.cons (k' := 40) rfl (isEq.stable _) ?_
  refine AllG.cons (k' := 41) rfl (isVal.stable _) ?_
  refine AllG.cons (k' := 42) rfl (isVal.stable _) ?_
  refine AllG.cons (k' := 43) rfl (isVal.stable _) ?_
  refine AllG.cons (k' := 44) rfl (isVal.stable _) ?_
  refine AllG.cons (k' := 45) rfl (isVal.stable _) ?_
  refine AllG.cons (k' := 46) rfl (isVal.stable _) ?_
  refine AllG.cons (k' := 47) rfl (isEq.stable _) ?_
  refine AllG.cons (k' := 48) rfl (isEq.stable _) ?_
  refine AllG.cons (k' := 49) rfl (isEq.stable _) ?_
  refine AllG.cons (k' := 50) rfl (isEq.stable _) ?_
  refine AllG.cons (k' := 51) rfl (isVal.stable _) ?_
  refine AllG.cons (k' := 52) rfl (isVal.stable _) ?_
  refine AllG.cons (k' := 53) rfl (isVal.stable _) ?_
  refine AllG.cons (k' := 54) rfl (isVal.stable _) ?_
  refine AllG.cons (k' := 55) rfl (isEq.stable _) ?_
  refine AllG.cons (k' := 56) rfl (isEq.stable _) ?_
  refine AllG.cons (k' := 57) rfl (isEq.stable _) ?_
  refine AllG.cons (k' := 58) rfl (isEq.stable _) ?_
  refine AllG.cons (k' := 59) rfl (isVal.stable _) ?_
  refine AllG.cons (k' := 60) rfl (isVal.stable _) ?_
  refine AllG.cons (k' := 61) rfl (isEq.stable _) ?_
  refine AllG.cons (k' := 62) rfl (isEq.stable _) ?_
  refine AllG.cons (k' := 63) rfl (isEq.stable _) ?_
  refine AllG.cons (k' := 64) rfl (isEq.stable _) ?_
  exact AllG.nil
set_option maxHeartbeats 64000000 in
theorem eagerKnown_walk (w : World) : Calls Try.prog 3 #[] w fun e w' => e = .returned (.bool true) ∧ Below w.heap.size w w' := by
  go_enter Try.func3, Try.ntmps3
  go_wp2_with fail
  refine (awake14_any _).mono ?_
  rintro e w1 ⟨rfl, hb'⟩
  have H1 := Lib.hid hb'
  clear hb'
  go_wp2_with fail
  refine (byt_walk 97 (by decide) w1).mono ?_
  rintro e w2 ⟨z2, rfl, hat2, hb'⟩
  obtain ⟨k2, y2, a2, len2, cap2, rfl⟩ := at_lit hat2
  have H2 := Lib.hid (et3 H1.out hb')
  have A2 := Lib.hid hat2
  clear hb' hat2
  obtain ⟨V1, hV1⟩ : ∃ V1, V1 = w2.alloc (.cells #[.int .i64 k2, .int .u8 y2, .slice a2 len2 cap2] 25) := ⟨_, rfl⟩
  obtain ⟨V2, hV2⟩ : ∃ V2, V2 = V1.alloc (.cells #[.int .i64 6, .int .u8 0, .slice none 0 0] 25) := ⟨_, rfl⟩
  obtain ⟨V3, hV3⟩ : ∃ V3, V3 = V2.alloc (.cells #[.int .i64 6, .int .u8 0, .slice (some ⟨w2.heap.size, 0, none⟩) 1 1] 25) := ⟨_, rfl⟩
  have hs1 : V1.heap.size = w2.heap.size + 1 := by rw [hV1]; simp
  have hs2 : V2.heap.size = w2.heap.size + 1 + 1 := by rw [hV2]; simp [hs1]
  have hb1 : Below w2.heap.size w2 V1 := by rw [hV1]; exact (Below.refl _ _).alloc (Nat.le_refl _) _
  have hb2 : Below V1.heap.size V1 V2 := by rw [hV2]; exact (Below.refl _ _).alloc (Nat.le_refl _) _
  have hb3 : Below V2.heap.size V2 V3 := by rw [hV3]; exact (Below.refl _ _).alloc (Nat.le_refl _) _
  have m1 : Vl.at V1 (.mk 6 0 [.mk 2 97 []]) [.int .i64 6, .int .u8 0, .slice (some ⟨w2.heap.size, 0, none⟩) 1 1] := by
    refine at_made (k := 6) (z := 0) (b := w2.heap.size) rfl (by decide) [(.mk 2 97 [], [.int .i64 k2, .int .u8 y2, .slice a2 len2 cap2])] (by show 1 ≤ maxLen; decide) ?_ (by rw [hV1]; exact World.alloc_heap_new _ _)
    intro p hp
    rw [List.mem_singleton] at hp
    subst hp
    exact eat3 A2.out hb1
  have HM := Lib.hid (eat3 (eat3 m1 hb2) hb3)
  have HMN : Hid (Vl.at V3 (.mk 6 0 []) [.int .i64 6, .int .u8 0, .slice none 0 0]) := Lib.hid (at_plain rfl (by decide))
  have hc1 : ValIn V2 (w2.heap.size + 1) #[.int .i64 6, .int .u8 0, .slice none 0 0] := by rw [hV2, ← hs1]; exact World.alloc_heap_new _ _
  have hc2 : ValIn V3 (w2.heap.size + 1 + 1) #[.int .i64 6, .int .u8 0, .slice (some ⟨w2.heap.size, 0, none⟩) 1 1] := by rw [hV3, ← hs2]; exact World.alloc_heap_new _ _
  have h71 : Val3 V3 (w2.heap.size + 1) 0 [.int .i64 6, .int .u8 0, .slice none 0 0] := Val3.below (val3_in hc1 rfl) (lt_of_block hc1) hb3
  have h72 : Val3 V3 (w2.heap.size + 1 + 1) 0 [.int .i64 6, .int .u8 0, .slice (some ⟨w2.heap.size, 0, none⟩) 1 1] := val3_in hc2 rfl
  have HV1 := Lib.hid (fun (w' : World) (h : Below V3.heap.size V3 w') => And.intro (Val3.below h71 h71.lt h) (eat3 HMN.out h))
  have HV2 := Lib.hid (fun (w' : World) (h : Below V3.heap.size V3 w') => And.intro (Val3.below h72 h72.lt h) (eat3 HM.out h))
  have H3 := Lib.hid (et3 H2.out (et3 hb1 (et3 hb2 hb3)))
  clear hs1 hs2 hb1 hb2 hb3 m1 hc1 hc2 h71 h72
  go_upto_region 4 with fail
  rw [← hV1, ← hV2, ← hV3]
  clear hV1 hV2 hV3
  have BX1 := Lib.hid HV1.out
  have BX2 := Lib.hid HV2.out
  go_cut [3, 4] from 13 to 22 (fun v3 v4 wx => v3 = .int .i64 1 ∧ v4 = .bool true ∧ Below V3.heap.size V3 wx)
  case first =>
   rename_i J K' hR hMet
   refine wp_region_guards (factAt (kE4 V3.heap.size)) (W0 := V3) (by kernel_rfl) (by kernel_rfl) (by kernel_rfl) (Below.refl _ _) (fun i v w w' h hk => factAt_stable (kE4_stable _) i v w w' h hk) [] (by kernel_rfl) ?hgu ?hop ?hend
   case hgu =>
     intro j hj v w h
     simp at hj
   case hop =>
     refine AllG.get0 ?_
     refine AllG.cons (k' := 1) rfl ?_ ?_
     · intro a' w' hB hk hin KK hK
       refine wp_load_valK _ rfl (w2.heap.size + 1) 0 _ (eval_tmp (by rw [hk 1 (by kernel_rfl)]; rfl)) (BX1.out _ hB).1 ?_
       exact hK _ _ hB (KeepsC.of_below (Below.refl _ _)) (fact_put (P := isVal (Vl.mk 6 0 [])) rfl ⟨_, rfl, (BX1.out _ hB).2⟩)
     refine AllG.cons (k' := 2) rfl ?_ ?_
     · intro a' w' hB hk hin KK hK
       refine wp_load_valK _ rfl (w2.heap.size + 1 + 1) 0 _ (eval_tmp (by rw [hk 2 (by kernel_rfl)]; rfl)) (BX2.out _ hB).1 ?_
       exact hK _ _ hB (KeepsC.of_below (Below.refl _ _)) (fact_put (P := isVal (Vl.mk 6 0 [(Vl.mk 2 97 [])])) rfl ⟨_, rfl, (BX2.out _ hB).2⟩)
     refine AllG.cons (k' := 3) rfl ?_ ?_
     · intro a' w' hB hk hin KK hK
       refine wp_load_valK _ rfl (w2.heap.size + 1 + 1) 0 _ (eval_tmp (by rw [hk 2 (by kernel_rfl)]; rfl)) (BX2.out _ hB).1 ?_
       exact hK _ _ hB (KeepsC.of_below (Below.refl _ _)) (fact_put (P := isVal (Vl.mk 6 0 [(Vl.mk 2 97 [])])) rfl ⟨_, rfl, (BX2.out _ hB).2⟩)
     refine AllG.cons (k' := 4) rfl ?_ ?_
     · intro a' w' hB hk hin KK hK
       obtain ⟨v1, e1, q1⟩ := hin 2 _ 16 rfl rfl ⟨{ on := 2, ground := .data }, by simp, rfl, rfl⟩
       have q1 := fact_get (P := isVal (Vl.mk 6 0 [(Vl.mk 2 97 [])])) rfl q1
       obtain ⟨zs1, r1, hat1⟩ := q1
       subst r1
       unfold Oper.wp execOp
       go_simp
       refine (right_walk hat1).mono ?_
       rintro e wn ⟨zz, rfl, hat, hbn⟩
       exact hK _ _ (hB.trans (hbn.mono hB.size)) (KeepsC.of_below hbn) (fact_put (P := isVal (Vl.mk 5 0 [(Vl.mk 6 0 [(Vl.mk 2 97 [])])])) rfl ⟨zz, rfl, hat⟩)
     refine AllG.cons (k' := 5) rfl ?_ ?_
     · intro a' w' hB hk hin KK hK
       refine wp_load_valK _ rfl (w2.heap.size + 1 + 1) 0 _ (eval_tmp (by rw [hk 2 (by kernel_rfl)]; rfl)) (BX2.out _ hB).1 ?_
       exact hK _ _ hB (KeepsC.of_below (Below.refl _ _)) (fact_put (P := isVal (Vl.mk 6 0 [(Vl.mk 2 97 [])])) rfl ⟨_, rfl, (BX2.out _ hB).2⟩)
     refine AllG.cons (k' := 6) rfl ?_ ?_
     · intro a' w' hB hk hin KK hK
       obtain ⟨v2, e2, q2⟩ := hin 0 _ 14 rfl rfl ⟨{ on := 0, ground := .data }, by simp, rfl, rfl⟩
       have q2 := fact_get (P := isVal (Vl.mk 6 0 [])) rfl q2
       obtain ⟨zs2, r2, hat2⟩ := q2
       subst r2
       have ha2 := at_lit hat2
       obtain ⟨k2, z2, a2, len2, cap2, rfl⟩ := ha2
       obtain ⟨v3, e3, q3⟩ := hin 1 _ 15 rfl rfl ⟨{ on := 1, ground := .data }, by simp, rfl, rfl⟩
       have q3 := fact_get (P := isVal (Vl.mk 6 0 [(Vl.mk 2 97 [])])) rfl q3
       obtain ⟨zs3, r3, hat3⟩ := q3
       subst r3
       have ha3 := at_lit hat3
       obtain ⟨k3, z3, a3, len3, cap3, rfl⟩ := ha3
       obtain ⟨v4, e4, q4⟩ := hin 3 _ 17 rfl rfl ⟨{ on := 3, ground := .data }, by simp, rfl, rfl⟩
       have q4 := fact_get (P := isVal (Vl.mk 5 0 [(Vl.mk 6 0 [(Vl.mk 2 97 [])])])) rfl q4
       obtain ⟨zs4, r4, hat4⟩ := q4
       subst r4
       have ha4 := at_lit hat4
       obtain ⟨k4, z4, a4, len4, cap4, rfl⟩ := ha4
       obtain ⟨v5, e5, q5⟩ := hin 4 _ 18 rfl rfl ⟨{ on := 4, ground := .data }, by simp, rfl, rfl⟩
       have q5 := fact_get (P := isVal (Vl.mk 6 0 [(Vl.mk 2 97 [])])) rfl q5
       obtain ⟨zs5, r5, hat5⟩ := q5
       subst r5
       have ha5 := at_lit hat5
       obtain ⟨k5, z5, a5, len5, cap5, rfl⟩ := ha5
       have hv := fun cs hc => vals_lit w' [((Vl.mk 6 0 []), [.int .i64 k2, .int .u8 z2, .slice a2 len2 cap2]), ((Vl.mk 6 0 [(Vl.mk 2 97 [])]), [.int .i64 k3, .int .u8 z3, .slice a3 len3 cap3]), ((Vl.mk 5 0 [(Vl.mk 6 0 [(Vl.mk 2 97 [])])]), [.int .i64 k4, .int .u8 z4, .slice a4 len4 cap4]), ((Vl.mk 6 0 [(Vl.mk 2 97 [])]), [.int .i64 k5, .int .u8 z5, .slice a5 len5 cap5])] (by intro p hp; simp only [List.mem_cons, List.not_mem_nil, or_false] at hp; rcases hp with rfl | rfl | rfl | rfl <;> assumption) cs hc (by show 4 ≤ maxLen; decide)
       unfold Oper.wp execOp
       go_simp
       exact hK _ _ (hB.alloc hB.size _) (KeepsC.of_below ((Below.refl _ _).alloc (Nat.le_refl _) _)) (fact_put (P := isVals [(Vl.mk 6 0 []), (Vl.mk 6 0 [(Vl.mk 2 97 [])]), (Vl.mk 5 0 [(Vl.mk 6 0 [(Vl.mk 2 97 [])])]), (Vl.mk 6 0 [(Vl.mk 2 97 [])])]) rfl (hv _ rfl))
     refine AllG.cons (k' := 7) rfl ?_ ?_
     · intro a' w' hB hk hin KK hK
       obtain ⟨v6, e6, q6⟩ := hin 5 _ 19 rfl rfl ⟨{ on := 5, ground := .data }, by simp, rfl, rfl⟩
       have q6 := fact_get (P := isVals [(Vl.mk 6 0 []), (Vl.mk 6 0 [(Vl.mk 2 97 [])]), (Vl.mk 5 0 [(Vl.mk 6 0 [(Vl.mk 2 97 [])])]), (Vl.mk 6 0 [(Vl.mk 2 97 [])])]) rfl q6
       have hl6 := q6
       obtain ⟨a6, cap6, r6, _⟩ := q6
       subst r6
       unfold Oper.wp execOp
       go_simp
       refine (ebest_eq (i := 1) hl6 (by decide +kernel)).mono ?_
       rintro e wn ⟨rfl, hbn⟩
       exact hK _ _ (hB.trans (hbn.mono hB.size)) (KeepsC.of_below hbn) (fact_put (P := isEq (.tuple #[.int .i64 1, .bool true])) rfl rfl)
     refine AllG.cons (k' := 8) rfl ?_ ?_
     · intro a' w' hB hk hin KK hK
       obtain ⟨v7, e7, q7⟩ := hin 6 _ 20 rfl rfl ⟨{ on := 6, ground := .data }, by simp, rfl, rfl⟩
       have q7 := fact_get (P := isEq (.tuple #[.int .i64 1, .bool true])) rfl q7
       have q7' : v7 = .tuple #[.int .i64 1, .bool true] := q7
       subst q7'
       unfold Oper.wp execOp
       go_simp
       exact hK _ _ hB (KeepsC.of_below (Below.refl _ _)) (fact_put (P := isEq (.tuple #[.int .i64 1, .bool true])) rfl rfl)
     refine AllG.cons (k' := 9) rfl ?_ ?_
     · intro a' w' hB hk hin KK hK
       obtain ⟨v8, e8, q8⟩ := hin 7 _ 13 rfl rfl ⟨{ on := 7, ground := .data }, by simp, rfl, rfl⟩
       have q8 := fact_get (P := isEq (.tuple #[.int .i64 1, .bool true])) rfl q8
       have q8' : v8 = .tuple #[.int .i64 1, .bool true] := q8
       subst q8'
       unfold Oper.wp execOp
       go_simp
       exact hK _ _ hB (KeepsC.of_below (Below.refl _ _)) (fact_put (P := isEq (.int .i64 1)) rfl rfl)
     refine AllG.cons (k' := 10) rfl ?_ ?_
     · intro a' w' hB hk hin KK hK
       obtain ⟨v9, e9, q9⟩ := hin 7 _ 13 rfl rfl ⟨{ on := 7, ground := .data }, by simp, rfl, rfl⟩
       have q9 := fact_get (P := isEq (.tuple #[.int .i64 1, .bool true])) rfl q9
       have q9' : v9 = .tuple #[.int .i64 1, .bool true] := q9
       subst q9'
       unfold Oper.wp execOp
       go_simp
       exact hK _ _ hB (KeepsC.of_below (Below.refl _ _)) (fact_put (P := isEq (.bool true)) rfl rfl)
     refine AllG.cons (k' := 11) rfl ?_ ?_
     · intro a' w' hB hk hin KK hK
       obtain ⟨v10, e10, q10⟩ := hin 8 _ 21 rfl rfl ⟨{ on := 8, ground := .data }, by simp, rfl, rfl⟩
       have q10 := fact_get (P := isEq (.int .i64 1)) rfl q10
       have q10' : v10 = .int .i64 1 := q10
       subst q10'
       unfold Oper.wp execOp
       go_simp
       exact hK _ _ hB (KeepsC.of_below (Below.refl _ _)) (fact_put (P := isEq (.int .i64 1)) rfl rfl)
     refine AllG.cons (k' := 12) rfl ?_ ?_
     · intro a' w' hB hk hin KK hK
       obtain ⟨v11, e11, q11⟩ := hin 9 _ 22 rfl rfl ⟨{ on := 9, ground := .data }, by simp, rfl, rfl⟩
       have q11 := fact_get (P := isEq (.bool true)) rfl q11
       have q11' : v11 = .bool true := q11
       subst q11'
       unfold Oper.wp execOp
       go_simp
       exact hK _ _ hB (KeepsC.of_below (Below.refl _ _)) (fact_put (P := isEq (.bool true)) rfl rfl)
     exact AllG.nil
   case hend =>
    intro a' w' hB hdef hsz hk hvals
    obtain ⟨v0', hv0, hvt0⟩ := hvals 10 _ 3 rfl rfl
    obtain ⟨v1', hv1, hvt1⟩ := hvals 11 _ 4 rfl rfl
    have hvt0' : v0' = .int .i64 1 := fact_get (P := isEq (.int .i64 1)) rfl hvt0
    have hvt1' : v1' = .bool true := fact_get (P := isEq (.bool true)) rfl hvt1
    have hf0 : a'.tmps.getD 3 undef = v0' := by rw [Array.getD_eq_getD_getElem?, hv0]; rfl
    have hf1 : a'.tmps.getD 4 undef = v1' := by rw [Array.getD_eq_getD_getElem?, hv1]; rfl
    have heq := act_eq hdef hsz hk
    refine hMet a' w' (Met.intro (hR a' w' ?_))
    refine ⟨a'.tmps.getD 3 undef, a'.tmps.getD 4 undef, a'.tmps.getD 13 undef, a'.tmps.getD 14 undef, a'.tmps.getD 15 undef, a'.tmps.getD 16 undef, a'.tmps.getD 17 undef, a'.tmps.getD 18 undef, a'.tmps.getD 19 undef, a'.tmps.getD 20 undef, a'.tmps.getD 21 undef, a'.tmps.getD 22 undef, ⟨by rw [hf0]; exact hvt0', by rw [hf1]; exact hvt1', hB⟩, heq.trans ?_⟩
    kernel_rfl
  case rest =>
  obtain ⟨rfl, rfl, hBc⟩ := hcut
  have H4 := Lib.hid hBc
  clear hBc BX1 BX2
  go_wp2_with fail
  refine (ebest_empty _ _ _).mono ?_
  rintro e w5 ⟨rfl, hb'⟩
  have H5 := Lib.hid (et3 H4.out hb')
  clear hb'
  have BX1 := Lib.hid (fun (w' : World) (h : Below w5.heap.size w5 w') => HV1.out w' (et3 H5.out h))
  have BX2 := Lib.hid (fun (w' : World) (h : Below w5.heap.size w5 w') => HV2.out w' (et3 H5.out h))
  go_upto_region 6 with fail
  go_cut [0] from 27 to 89 (fun v0 wx => v0 = .bool true ∧ Below w5.heap.size w5 wx)
  case first =>
   rename_i J K' hR hMet
   refine wp_region_guards (factAt (kE6 w5.heap.size)) (W0 := w5) (by kernel_rfl) (by kernel_rfl) (by kernel_rfl) (Below.refl _ _) (fun i v w w' h hk => factAt_stable (kE6_stable _) i v w w' h hk) [4, 10, 16, 22, 25, 29, 33, 39, 49, 57] (by kernel_rfl) ?hgu ?hop ?hend
   case hgu =>
     intro j hj v w h
     simp only [List.mem_cons, List.not_mem_nil, or_false] at hj
     rcases hj with rfl | rfl | rfl | rfl | rfl | rfl | rfl | rfl | rfl | rfl
     · exact fact_get (P := isEq (.bool true)) rfl h
     · exact fact_get (P := isEq (.bool true)) rfl h
     · exact fact_get (P := isEq (.bool true)) rfl h
     · exact fact_get (P := isEq (.bool true)) rfl h
     · exact fact_get (P := isEq (.bool true)) rfl h
     · exact fact_get (P := isEq (.bool true)) rfl h
     · exact fact_get (P := isEq (.bool true)) rfl h
     · exact fact_get (P := isEq (.bool true)) rfl h
     · exact fact_get (P := isEq (.bool true)) rfl h
     · exact fact_get (P := isEq (.bool true)) rfl h
   case hop =>
     refine AllG.get0 ?_
     refine AllG.cons (k' := 1) rfl ?_ ?_
     · intro a' w' hB hk hin KK hK
       refine wp_load_valK _ rfl (w2.heap.size + 1 + 1) 0 _ (eval_tmp (by rw [hk 2 (by kernel_rfl)]; rfl)) (BX2.out _ hB).1 ?_
       exact hK _ _ hB (KeepsC.of_below (Below.refl _ _)) (fact_put (P := isVal (Vl.mk 6 0 [(Vl.mk 2 97 [])])) rfl ⟨_, rfl, (BX2.out _ hB).2⟩)
     refine AllG.cons (k' := 2) rfl ?_ ?_
     · intro a' w' hB hk hin KK hK
       refine wp_load_valK _ rfl (w2.heap.size + 1) 0 _ (eval_tmp (by rw [hk 1 (by kernel_rfl)]; rfl)) (BX1.out _ hB).1 ?_
       exact hK _ _ hB (KeepsC.of_below (Below.refl _ _)) (fact_put (P := isVal (Vl.mk 6 0 [])) rfl ⟨_, rfl, (BX1.out _ hB).2⟩)
     refine AllG.cons (k' := 3) rfl ?_ ?_
     · intro a' w' hB hk hin KK hK
       obtain ⟨v1, e1, q1⟩ := hin 0 _ 27 rfl rfl ⟨{ on := 0, ground := .data }, by simp, rfl, rfl⟩
       have q1 := fact_get (P := isVal (Vl.mk 6 0 [(Vl.mk 2 97 [])])) rfl q1
       obtain ⟨zs1, r1, hat1⟩ := q1
       subst r1
       obtain ⟨v2, e2, q2⟩ := hin 1 _ 28 rfl rfl ⟨{ on := 1, ground := .data }, by simp, rfl, rfl⟩
       have q2 := fact_get (P := isVal (Vl.mk 6 0 [])) rfl q2
       obtain ⟨zs2, r2, hat2⟩ := q2
       subst r2
       unfold Oper.wp execOp
       go_simp
       refine (ecmp_eq (n := -1) hat1 hat2 (by decide +kernel)).mono ?_
       rintro e wn ⟨rfl, hbn⟩
       exact hK _ _ (hB.trans (hbn.mono hB.size)) (KeepsC.of_below hbn) (fact_put (P := isEq (.int .i64 (-1))) rfl rfl)
     refine AllG.cons (k' := 4) rfl ?_ ?_
     · intro a' w' hB hk hin KK hK
       obtain ⟨v3, e3, q3⟩ := hin 2 _ 29 rfl rfl ⟨{ on := 2, ground := .data }, by simp, rfl, rfl⟩
       have q3 := fact_get (P := isEq (.int .i64 (-1))) rfl q3
       have q3' : v3 = .int .i64 (-1) := q3
       subst q3'
       unfold Oper.wp execOp
       go_simp
       exact hK _ _ hB (KeepsC.of_below (Below.refl _ _)) (fact_put (P := isEq (.bool true)) rfl rfl)
     refine AllG.cons (k' := 5) rfl ?_ ?_
     · intro a' w' hB hk hin KK hK
       obtain ⟨v4, e4, q4⟩ := hin 3 _ 30 rfl rfl ⟨{ on := 3, ground := .data }, by simp, rfl, rfl⟩
       have q4 := fact_get (P := isEq (.bool true)) rfl q4
       have q4' : v4 = .bool true := q4
       subst q4'
       unfold Oper.wp execOp
       go_simp
       exact hK _ _ hB (KeepsC.of_below (Below.refl _ _)) (fact_put (P := isEq (.bool true)) rfl rfl)
     refine AllG.cons (k' := 6) rfl ?_ ?_
     · intro a' w' hB hk hin KK hK
       refine wp_load_valK _ rfl (w2.heap.size + 1) 0 _ (eval_tmp (by rw [hk 1 (by kernel_rfl)]; rfl)) (BX1.out _ hB).1 ?_
       exact hK _ _ hB (KeepsC.of_below (Below.refl _ _)) (fact_put (P := isVal (Vl.mk 6 0 [])) rfl ⟨_, rfl, (BX1.out _ hB).2⟩)
     refine AllG.cons (k' := 7) rfl ?_ ?_
     · intro a' w' hB hk hin KK hK
       refine wp_load_valK _ rfl (w2.heap.size + 1 + 1) 0 _ (eval_tmp (by rw [hk 2 (by kernel_rfl)]; rfl)) (BX2.out _ hB).1 ?_
       exact hK _ _ hB (KeepsC.of_below (Below.refl _ _)) (fact_put (P := isVal (Vl.mk 6 0 [(Vl.mk 2 97 [])])) rfl ⟨_, rfl, (BX2.out _ hB).2⟩)
     refine AllG.cons (k' := 8) rfl ?_ ?_
     · intro a' w' hB hk hin KK hK
       obtain ⟨v5, e5, q5⟩ := hin 5 _ 32 rfl rfl ⟨{ on := 5, ground := .data }, by simp, rfl, rfl⟩
       have q5 := fact_get (P := isVal (Vl.mk 6 0 [])) rfl q5
       obtain ⟨zs5, r5, hat5⟩ := q5
       subst r5
       obtain ⟨v6, e6, q6⟩ := hin 6 _ 33 rfl rfl ⟨{ on := 6, ground := .data }, by simp, rfl, rfl⟩
       have q6 := fact_get (P := isVal (Vl.mk 6 0 [(Vl.mk 2 97 [])])) rfl q6
       obtain ⟨zs6, r6, hat6⟩ := q6
       subst r6
       unfold Oper.wp execOp
       go_simp
       refine (ecmp_eq (n := 1) hat5 hat6 (by decide +kernel)).mono ?_
       rintro e wn ⟨rfl, hbn⟩
       exact hK _ _ (hB.trans (hbn.mono hB.size)) (KeepsC.of_below hbn) (fact_put (P := isEq (.int .i64 (1))) rfl rfl)
     refine AllG.cons (k' := 9) rfl ?_ ?_
     · intro a' w' hB hk hin KK hK
       obtain ⟨v7, e7, q7⟩ := hin 7 _ 34 rfl rfl ⟨{ on := 7, ground := .data }, by simp, rfl, rfl⟩
       have q7 := fact_get (P := isEq (.int .i64 (1))) rfl q7
       have q7' : v7 = .int .i64 (1) := q7
       subst q7'
       unfold Oper.wp execOp
       go_simp
       exact hK _ _ hB (KeepsC.of_below (Below.refl _ _)) (fact_put (P := isEq (.bool true)) rfl rfl)
     refine AllG.cons (k' := 10) rfl ?_ ?_
     · intro a' w' hB hk hin KK hK
       obtain ⟨v8, e8, q8⟩ := hin 4 _ 31 rfl rfl ⟨{ on := 4, ground := .data }, by simp, rfl, rfl⟩
       have q8 := fact_get (P := isEq (.bool true)) rfl q8
       have q8' : v8 = .bool true := q8
       subst q8'
       obtain ⟨v9, e9, q9⟩ := hin 8 _ 35 rfl rfl ⟨{ on := 8, ground := .data }, by simp, rfl, rfl⟩
       have q9 := fact_get (P := isEq (.bool true)) rfl q9
       have q9' : v9 = .bool true := q9
       subst q9'
       unfold Oper.wp execOp
       go_simp
       exact hK _ _ hB (KeepsC.of_below (Below.refl _ _)) (fact_put (P := isEq (.bool true)) rfl rfl)
     refine AllG.cons (k' := 11) rfl ?_ ?_
     · intro a' w' hB hk hin KK hK
       obtain ⟨v10, e10, q10⟩ := hin 9 _ 36 rfl rfl ⟨{ on := 9, ground := .data }, by simp, rfl, rfl⟩
       have q10 := fact_get (P := isEq (.bool true)) rfl q10
       have q10' : v10 = .bool true := q10
       subst q10'
       unfold Oper.wp execOp
       go_simp
       exact hK _ _ hB (KeepsC.of_below (Below.refl _ _)) (fact_put (P := isEq (.bool true)) rfl rfl)
     refine AllG.cons (k' := 12) rfl ?_ ?_
     · intro a' w' hB hk hin KK hK
       unfold Oper.wp execOp
       go_simp
       refine (byt_walk 97 (by decide) w').mono ?_
       rintro e wn ⟨zz, rfl, hat, hbn⟩
       exact hK _ _ (hB.trans (hbn.mono hB.size)) (KeepsC.of_below hbn) (fact_put (P := isVal (Vl.mk 2 97 [])) rfl ⟨zz, rfl, hat⟩)
     refine AllG.cons (k' := 13) rfl ?_ ?_
     · intro a' w' hB hk hin KK hK
       unfold Oper.wp execOp
       go_simp
       refine (byt_walk 98 (by decide) w').mono ?_
       rintro e wn ⟨zz, rfl, hat, hbn⟩
       exact hK _ _ (hB.trans (hbn.mono hB.size)) (KeepsC.of_below hbn) (fact_put (P := isVal (Vl.mk 2 98 [])) rfl ⟨zz, rfl, hat⟩)
     refine AllG.cons (k' := 14) rfl ?_ ?_
     · intro a' w' hB hk hin KK hK
       obtain ⟨v11, e11, q11⟩ := hin 11 _ 38 rfl rfl ⟨{ on := 11, ground := .data }, by simp, rfl, rfl⟩
       have q11 := fact_get (P := isVal (Vl.mk 2 97 [])) rfl q11
       obtain ⟨zs11, r11, hat11⟩ := q11
       subst r11
       obtain ⟨v12, e12, q12⟩ := hin 12 _ 39 rfl rfl ⟨{ on := 12, ground := .data }, by simp, rfl, rfl⟩
       have q12 := fact_get (P := isVal (Vl.mk 2 98 [])) rfl q12
       obtain ⟨zs12, r12, hat12⟩ := q12
       subst r12
       unfold Oper.wp execOp
       go_simp
       refine (ecmp_eq (n := 0) hat11 hat12 (by decide +kernel)).mono ?_
       rintro e wn ⟨rfl, hbn⟩
       exact hK _ _ (hB.trans (hbn.mono hB.size)) (KeepsC.of_below hbn) (fact_put (P := isEq (.int .i64 (0))) rfl rfl)
     refine AllG.cons (k' := 15) rfl ?_ ?_
     · intro a' w' hB hk hin KK hK
       obtain ⟨v13, e13, q13⟩ := hin 13 _ 40 rfl rfl ⟨{ on := 13, ground := .data }, by simp, rfl, rfl⟩
       have q13 := fact_get (P := isEq (.int .i64 (0))) rfl q13
       have q13' : v13 = .int .i64 (0) := q13
       subst q13'
       unfold Oper.wp execOp
       go_simp
       exact hK _ _ hB (KeepsC.of_below (Below.refl _ _)) (fact_put (P := isEq (.bool true)) rfl rfl)
     refine AllG.cons (k' := 16) rfl ?_ ?_
     · intro a' w' hB hk hin KK hK
       obtain ⟨v14, e14, q14⟩ := hin 10 _ 37 rfl rfl ⟨{ on := 10, ground := .data }, by simp, rfl, rfl⟩
       have q14 := fact_get (P := isEq (.bool true)) rfl q14
       have q14' : v14 = .bool true := q14
       subst q14'
       obtain ⟨v15, e15, q15⟩ := hin 14 _ 41 rfl rfl ⟨{ on := 14, ground := .data }, by simp, rfl, rfl⟩
       have q15 := fact_get (P := isEq (.bool true)) rfl q15
       have q15' : v15 = .bool true := q15
       subst q15'
       unfold Oper.wp execOp
       go_simp
       exact hK _ _ hB (KeepsC.of_below (Below.refl _ _)) (fact_put (P := isEq (.bool true)) rfl rfl)
     refine AllG.cons (k' := 17) rfl ?_ ?_
     · intro a' w' hB hk hin KK hK
       obtain ⟨v16, e16, q16⟩ := hin 15 _ 42 rfl rfl ⟨{ on := 15, ground := .data }, by simp, rfl, rfl⟩
       have q16 := fact_get (P := isEq (.bool true)) rfl q16
       have q16' : v16 = .bool true := q16
       subst q16'
       unfold Oper.wp execOp
       go_simp
       exact hK _ _ hB (KeepsC.of_below (Below.refl _ _)) (fact_put (P := isEq (.bool true)) rfl rfl)
     refine AllG.cons (k' := 18) rfl ?_ ?_
     · intro a' w' hB hk hin KK hK
       unfold Oper.wp execOp
       go_simp
       refine (byt_walk 97 (by decide) w').mono ?_
       rintro e wn ⟨zz, rfl, hat, hbn⟩
       exact hK _ _ (hB.trans (hbn.mono hB.size)) (KeepsC.of_below hbn) (fact_put (P := isVal (Vl.mk 2 97 [])) rfl ⟨zz, rfl, hat⟩)
     refine AllG.cons (k' := 19) rfl ?_ ?_
     · intro a' w' hB hk hin KK hK
       refine wp_load_valK _ rfl (w2.heap.size + 1) 0 _ (eval_tmp (by rw [hk 1 (by kernel_rfl)]; rfl)) (BX1.out _ hB).1 ?_
       exact hK _ _ hB (KeepsC.of_below (Below.refl _ _)) (fact_put (P := isVal (Vl.mk 6 0 [])) rfl ⟨_, rfl, (BX1.out _ hB).2⟩)
     refine AllG.cons (k' := 20) rfl ?_ ?_
     · intro a' w' hB hk hin KK hK
       obtain ⟨v17, e17, q17⟩ := hin 17 _ 44 rfl rfl ⟨{ on := 17, ground := .data }, by simp, rfl, rfl⟩
       have q17 := fact_get (P := isVal (Vl.mk 2 97 [])) rfl q17
       obtain ⟨zs17, r17, hat17⟩ := q17
       subst r17
       obtain ⟨v18, e18, q18⟩ := hin 18 _ 45 rfl rfl ⟨{ on := 18, ground := .data }, by simp, rfl, rfl⟩
       have q18 := fact_get (P := isVal (Vl.mk 6 0 [])) rfl q18
       obtain ⟨zs18, r18, hat18⟩ := q18
       subst r18
       unfold Oper.wp execOp
       go_simp
       refine (ecmp_eq (n := -1) hat17 hat18 (by decide +kernel)).mono ?_
       rintro e wn ⟨rfl, hbn⟩
       exact hK _ _ (hB.trans (hbn.mono hB.size)) (KeepsC.of_below hbn) (fact_put (P := isEq (.int .i64 (-1))) rfl rfl)
     refine AllG.cons (k' := 21) rfl ?_ ?_
     · intro a' w' hB hk hin KK hK
       obtain ⟨v19, e19, q19⟩ := hin 19 _ 46 rfl rfl ⟨{ on := 19, ground := .data }, by simp, rfl, rfl⟩
       have q19 := fact_get (P := isEq (.int .i64 (-1))) rfl q19
       have q19' : v19 = .int .i64 (-1) := q19
       subst q19'
       unfold Oper.wp execOp
       go_simp
       exact hK _ _ hB (KeepsC.of_below (Below.refl _ _)) (fact_put (P := isEq (.bool true)) rfl rfl)
     refine AllG.cons (k' := 22) rfl ?_ ?_
     · intro a' w' hB hk hin KK hK
       obtain ⟨v20, e20, q20⟩ := hin 16 _ 43 rfl rfl ⟨{ on := 16, ground := .data }, by simp, rfl, rfl⟩
       have q20 := fact_get (P := isEq (.bool true)) rfl q20
       have q20' : v20 = .bool true := q20
       subst q20'
       obtain ⟨v21, e21, q21⟩ := hin 20 _ 47 rfl rfl ⟨{ on := 20, ground := .data }, by simp, rfl, rfl⟩
       have q21 := fact_get (P := isEq (.bool true)) rfl q21
       have q21' : v21 = .bool true := q21
       subst q21'
       unfold Oper.wp execOp
       go_simp
       exact hK _ _ hB (KeepsC.of_below (Below.refl _ _)) (fact_put (P := isEq (.bool true)) rfl rfl)
     refine AllG.cons (k' := 23) rfl ?_ ?_
     · intro a' w' hB hk hin KK hK
       obtain ⟨v22, e22, q22⟩ := hin 21 _ 48 rfl rfl ⟨{ on := 21, ground := .data }, by simp, rfl, rfl⟩
       have q22 := fact_get (P := isEq (.bool true)) rfl q22
       have q22' : v22 = .bool true := q22
       subst q22'
       unfold Oper.wp execOp
       go_simp
       exact hK _ _ hB (KeepsC.of_below (Below.refl _ _)) (fact_put (P := isEq (.bool true)) rfl rfl)
     refine AllG.cons (k' := 24) rfl ?_ ?_
     · intro a' w' hB hk hin KK hK
       have e4 : a'.tmps[4]? = some (.bool true) := by rw [hk 4 (by kernel_rfl)]; rfl
       unfold Oper.wp execOp
       go_simp
       exact hK _ _ hB (KeepsC.of_below (Below.refl _ _)) (fact_put (P := isEq (.bool true)) rfl rfl)
     refine AllG.cons (k' := 25) rfl ?_ ?_
     · intro a' w' hB hk hin KK hK
       obtain ⟨v23, e23, q23⟩ := hin 22 _ 49 rfl rfl ⟨{ on := 22, ground := .data }, by simp, rfl, rfl⟩
       have q23 := fact_get (P := isEq (.bool true)) rfl q23
       have q23' : v23 = .bool true := q23
       subst q23'
       obtain ⟨v24, e24, q24⟩ := hin 23 _ 50 rfl rfl ⟨{ on := 23, ground := .data }, by simp, rfl, rfl⟩
       have q24 := fact_get (P := isEq (.bool true)) rfl q24
       have q24' : v24 = .bool true := q24
       subst q24'
       unfold Oper.wp execOp
       go_simp
       exact hK _ _ hB (KeepsC.of_below (Below.refl _ _)) (fact_put (P := isEq (.bool true)) rfl rfl)
     refine AllG.cons (k' := 26) rfl ?_ ?_
     · intro a' w' hB hk hin KK hK
       obtain ⟨v25, e25, q25⟩ := hin 24 _ 51 rfl rfl ⟨{ on := 24, ground := .data }, by simp, rfl, rfl⟩
       have q25 := fact_get (P := isEq (.bool true)) rfl q25
       have q25' : v25 = .bool true := q25
       subst q25'
       unfold Oper.wp execOp
       go_simp
       exact hK _ _ hB (KeepsC.of_below (Below.refl _ _)) (fact_put (P := isEq (.bool true)) rfl rfl)
     refine AllG.cons (k' := 27) rfl ?_ ?_
     · intro a' w' hB hk hin KK hK
       have e3 : a'.tmps[3]? = some (.int .i64 1) := by rw [hk 3 (by kernel_rfl)]; rfl
       unfold Oper.wp execOp
       go_simp
       exact hK _ _ hB (KeepsC.of_below (Below.refl _ _)) (fact_put (P := isEq (.int .i64 1)) rfl rfl)
     refine AllG.cons (k' := 28) rfl ?_ ?_
     · intro a' w' hB hk hin KK hK
       obtain ⟨v26, e26, q26⟩ := hin 26 _ 53 rfl rfl ⟨{ on := 26, ground := .data }, by simp, rfl, rfl⟩
       have q26 := fact_get (P := isEq (.int .i64 1)) rfl q26
       have q26' : v26 = .int .i64 1 := q26
       subst q26'
       unfold Oper.wp execOp
       go_simp
       exact hK _ _ hB (KeepsC.of_below (Below.refl _ _)) (fact_put (P := isEq (.bool true)) rfl rfl)
     refine AllG.cons (k' := 29) rfl ?_ ?_
     · intro a' w' hB hk hin KK hK
       obtain ⟨v27, e27, q27⟩ := hin 25 _ 52 rfl rfl ⟨{ on := 25, ground := .data }, by simp, rfl, rfl⟩
       have q27 := fact_get (P := isEq (.bool true)) rfl q27
       have q27' : v27 = .bool true := q27
       subst q27'
       obtain ⟨v28, e28, q28⟩ := hin 27 _ 54 rfl rfl ⟨{ on := 27, ground := .data }, by simp, rfl, rfl⟩
       have q28 := fact_get (P := isEq (.bool true)) rfl q28
       have q28' : v28 = .bool true := q28
       subst q28'
       unfold Oper.wp execOp
       go_simp
       exact hK _ _ hB (KeepsC.of_below (Below.refl _ _)) (fact_put (P := isEq (.bool true)) rfl rfl)
     refine AllG.cons (k' := 30) rfl ?_ ?_
     · intro a' w' hB hk hin KK hK
       obtain ⟨v29, e29, q29⟩ := hin 28 _ 55 rfl rfl ⟨{ on := 28, ground := .data }, by simp, rfl, rfl⟩
       have q29 := fact_get (P := isEq (.bool true)) rfl q29
       have q29' : v29 = .bool true := q29
       subst q29'
       unfold Oper.wp execOp
       go_simp
       exact hK _ _ hB (KeepsC.of_below (Below.refl _ _)) (fact_put (P := isEq (.bool true)) rfl rfl)
     refine AllG.cons (k' := 31) rfl ?_ ?_
     · intro a' w' hB hk hin KK hK
       have e6 : a'.tmps[6]? = some (.bool false) := by rw [hk 6 (by kernel_rfl)]; rfl
       unfold Oper.wp execOp
       go_simp
       exact hK _ _ hB (KeepsC.of_below (Below.refl _ _)) (fact_put (P := isEq (.bool false)) rfl rfl)
     refine AllG.cons (k' := 32) rfl ?_ ?_
     · intro a' w' hB hk hin KK hK
       obtain ⟨v30, e30, q30⟩ := hin 30 _ 57 rfl rfl ⟨{ on := 30, ground := .data }, by simp, rfl, rfl⟩
       have q30 := fact_get (P := isEq (.bool false)) rfl q30
       have q30' : v30 = .bool false := q30
       subst q30'
       unfold Oper.wp execOp
       go_simp
       exact hK _ _ hB (KeepsC.of_below (Below.refl _ _)) (fact_put (P := isEq (.bool true)) rfl rfl)
     refine AllG.cons (k' := 33) rfl ?_ ?_
     · intro a' w' hB hk hin KK hK
       obtain ⟨v31, e31, q31⟩ := hin 29 _ 56 rfl rfl ⟨{ on := 29, ground := .data }, by simp, rfl, rfl⟩
       have q31 := fact_get (P := isEq (.bool true)) rfl q31
       have q31' : v31 = .bool true := q31
       subst q31'
       obtain ⟨v32, e32, q32⟩ := hin 31 _ 58 rfl rfl ⟨{ on := 31, ground := .data }, by simp, rfl, rfl⟩
       have q32 := fact_get (P := isEq (.bool true)) rfl q32
       have q32' : v32 = .bool true := q32
       subst q32'
       unfold Oper.wp execOp
       go_simp
       exact hK _ _ hB (KeepsC.of_below (Below.refl _ _)) (fact_put (P := isEq (.bool true)) rfl rfl)
     refine AllG.cons (k' := 34) rfl ?_ ?_
     · intro a' w' hB hk hin KK hK
       obtain ⟨v33, e33, q33⟩ := hin 32 _ 59 rfl rfl ⟨{ on := 32, ground := .data }, by simp, rfl, rfl⟩
       have q33 := fact_get (P := isEq (.bool true)) rfl q33
       have q33' : v33 = .bool true := q33
       subst q33'
       unfold Oper.wp execOp
       go_simp
       exact hK _ _ hB (KeepsC.of_below (Below.refl _ _)) (fact_put (P := isEq (.bool true)) rfl rfl)
     refine AllG.cons (k' := 35) rfl ?_ ?_
     · intro a' w' hB hk hin KK hK
       refine wp_load_valK _ rfl (w2.heap.size + 1 + 1) 0 _ (eval_tmp (by rw [hk 2 (by kernel_rfl)]; rfl)) (BX2.out _ hB).1 ?_
       exact hK _ _ hB (KeepsC.of_below (Below.refl _ _)) (fact_put (P := isVal (Vl.mk 6 0 [(Vl.mk 2 97 [])])) rfl ⟨_, rfl, (BX2.out _ hB).2⟩)
     refine AllG.cons (k' := 36) rfl ?_ ?_
     · intro a' w' hB hk hin KK hK
       refine wp_load_valK _ rfl (w2.heap.size + 1) 0 _ (eval_tmp (by rw [hk 1 (by kernel_rfl)]; rfl)) (BX1.out _ hB).1 ?_
       exact hK _ _ hB (KeepsC.of_below (Below.refl _ _)) (fact_put (P := isVal (Vl.mk 6 0 [])) rfl ⟨_, rfl, (BX1.out _ hB).2⟩)
     refine AllG.cons (k' := 37) rfl ?_ ?_
     · intro a' w' hB hk hin KK hK
       obtain ⟨v34, e34, q34⟩ := hin 34 _ 61 rfl rfl ⟨{ on := 34, ground := .data }, by simp, rfl, rfl⟩
       have q34 := fact_get (P := isVal (Vl.mk 6 0 [(Vl.mk 2 97 [])])) rfl q34
       obtain ⟨zs34, r34, hat34⟩ := q34
       subst r34
       obtain ⟨v35, e35, q35⟩ := hin 35 _ 62 rfl rfl ⟨{ on := 35, ground := .data }, by simp, rfl, rfl⟩
       have q35 := fact_get (P := isVal (Vl.mk 6 0 [])) rfl q35
       obtain ⟨zs35, r35, hat35⟩ := q35
       subst r35
       unfold Oper.wp execOp
       go_simp
       refine (eapart_eq (n := 0) hat34 hat35 (by decide +kernel)).mono ?_
       rintro e wn ⟨rfl, hbn⟩
       exact hK _ _ (hB.trans (hbn.mono hB.size)) (KeepsC.of_below hbn) (fact_put (P := isEq (.int .i64 (0))) rfl rfl)
     refine AllG.cons (k' := 38) rfl ?_ ?_
     · intro a' w' hB hk hin KK hK
       obtain ⟨v36, e36, q36⟩ := hin 36 _ 63 rfl rfl ⟨{ on := 36, ground := .data }, by simp, rfl, rfl⟩
       have q36 := fact_get (P := isEq (.int .i64 (0))) rfl q36
       have q36' : v36 = .int .i64 (0) := q36
       subst q36'
       unfold Oper.wp execOp
       go_simp
       exact hK _ _ hB (KeepsC.of_below (Below.refl _ _)) (fact_put (P := isEq (.bool true)) rfl rfl)
     refine AllG.cons (k' := 39) rfl ?_ ?_
     · intro a' w' hB hk hin KK hK
       obtain ⟨v37, e37, q37⟩ := hin 33 _ 60 rfl rfl ⟨{ on := 33, ground := .data }, by simp, rfl, rfl⟩
       have q37 := fact_get (P := isEq (.bool true)) rfl q37
       have q37' : v37 = .bool true := q37
       subst q37'
       obtain ⟨v38, e38, q38⟩ := hin 37 _ 64 rfl rfl ⟨{ on := 37, ground := .data }, by simp, rfl, rfl⟩
       have q38 := fact_get (P := isEq (.bool true)) rfl q38
       have q38' : v38 = .bool true := q38
       subst q38'
       unfold Oper.wp execOp
       go_simp
       exact hK _ _ hB (KeepsC.of_below (Below.refl _ _)) (fact_put (P := isEq (.bool true)) rfl rfl)
     refine AllG.cons (k' := 40) rfl ?_ ?_
     · intro a' w' hB hk hin KK hK
       obtain ⟨v39, e39, q39⟩ := hin 38 _ 65 rfl rfl ⟨{ on := 38, ground := .data }, by simp, rfl, rfl⟩
       have q39 := fact_get (P := isEq (.bool true)) rfl q39
       have q39' : v39 = .bool true := q39
       subst q39'
       unfold Oper.wp execOp
       go_simp
       exact hK _ _ hB (KeepsC.of_below (Below.refl _ _)) (fact_put (P := isEq (.bool true)) rfl rfl)
     refine AllG.cons (k' := 41) rfl ?_ ?_
     · intro a' w' hB hk hin KK hK
       unfold Oper.wp execOp
       go_simp
       refine (byt_walk 97 (by decide) w').mono ?_
       rintro e wn ⟨zz, rfl, hat, hbn⟩
       exact hK _ _ (hB.trans (hbn.mono hB.size)) (KeepsC.of_below hbn) (fact_put (P := isVal (Vl.mk 2 97 [])) rfl ⟨zz, rfl, hat⟩)
     refine AllG.cons (k' := 42) rfl ?_ ?_
     · intro a' w' hB hk hin KK hK
       obtain ⟨v40, e40, q40⟩ := hin 40 _ 67 rfl rfl ⟨{ on := 40, ground := .data }, by simp, rfl, rfl⟩
       have q40 := fact_get (P := isVal (Vl.mk 2 97 [])) rfl q40
       obtain ⟨zs40, r40, hat40⟩ := q40
       subst r40
       unfold Oper.wp execOp
       go_simp
       refine (left_walk hat40).mono ?_
       rintro e wn ⟨zz, rfl, hat, hbn⟩
       exact hK _ _ (hB.trans (hbn.mono hB.size)) (KeepsC.of_below hbn) (fact_put (P := isVal (Vl.mk 4 0 [(Vl.mk 2 97 [])])) rfl ⟨zz, rfl, hat⟩)
     refine AllG.cons (k' := 43) rfl ?_ ?_
     · intro a' w' hB hk hin KK hK
       obtain ⟨v41, e41, q41⟩ := hin 41 _ 68 rfl rfl ⟨{ on := 41, ground := .data }, by simp, rfl, rfl⟩
       have q41 := fact_get (P := isVal (Vl.mk 4 0 [(Vl.mk 2 97 [])])) rfl q41
       obtain ⟨zs41, r41, hat41⟩ := q41
       subst r41
       unfold Oper.wp execOp
       go_simp
       refine (left_walk hat41).mono ?_
       rintro e wn ⟨zz, rfl, hat, hbn⟩
       exact hK _ _ (hB.trans (hbn.mono hB.size)) (KeepsC.of_below hbn) (fact_put (P := isVal (Vl.mk 4 0 [(Vl.mk 4 0 [(Vl.mk 2 97 [])])])) rfl ⟨zz, rfl, hat⟩)
     refine AllG.cons (k' := 44) rfl ?_ ?_
     · intro a' w' hB hk hin KK hK
       unfold Oper.wp execOp
       go_simp
       refine (byt_walk 97 (by decide) w').mono ?_
       rintro e wn ⟨zz, rfl, hat, hbn⟩
       exact hK _ _ (hB.trans (hbn.mono hB.size)) (KeepsC.of_below hbn) (fact_put (P := isVal (Vl.mk 2 97 [])) rfl ⟨zz, rfl, hat⟩)
     refine AllG.cons (k' := 45) rfl ?_ ?_
     · intro a' w' hB hk hin KK hK
       obtain ⟨v42, e42, q42⟩ := hin 43 _ 70 rfl rfl ⟨{ on := 43, ground := .data }, by simp, rfl, rfl⟩
       have q42 := fact_get (P := isVal (Vl.mk 2 97 [])) rfl q42
       obtain ⟨zs42, r42, hat42⟩ := q42
       subst r42
       unfold Oper.wp execOp
       go_simp
       refine (right_walk hat42).mono ?_
       rintro e wn ⟨zz, rfl, hat, hbn⟩
       exact hK _ _ (hB.trans (hbn.mono hB.size)) (KeepsC.of_below hbn) (fact_put (P := isVal (Vl.mk 5 0 [(Vl.mk 2 97 [])])) rfl ⟨zz, rfl, hat⟩)
     refine AllG.cons (k' := 46) rfl ?_ ?_
     · intro a' w' hB hk hin KK hK
       obtain ⟨v43, e43, q43⟩ := hin 44 _ 71 rfl rfl ⟨{ on := 44, ground := .data }, by simp, rfl, rfl⟩
       have q43 := fact_get (P := isVal (Vl.mk 5 0 [(Vl.mk 2 97 [])])) rfl q43
       obtain ⟨zs43, r43, hat43⟩ := q43
       subst r43
       unfold Oper.wp execOp
       go_simp
       refine (left_walk hat43).mono ?_
       rintro e wn ⟨zz, rfl, hat, hbn⟩
       exact hK _ _ (hB.trans (hbn.mono hB.size)) (KeepsC.of_below hbn) (fact_put (P := isVal (Vl.mk 4 0 [(Vl.mk 5 0 [(Vl.mk 2 97 [])])])) rfl ⟨zz, rfl, hat⟩)
     refine AllG.cons (k' := 47) rfl ?_ ?_
     · intro a' w' hB hk hin KK hK
       obtain ⟨v44, e44, q44⟩ := hin 42 _ 69 rfl rfl ⟨{ on := 42, ground := .data }, by simp, rfl, rfl⟩
       have q44 := fact_get (P := isVal (Vl.mk 4 0 [(Vl.mk 4 0 [(Vl.mk 2 97 [])])])) rfl q44
       obtain ⟨zs44, r44, hat44⟩ := q44
       subst r44
       obtain ⟨v45, e45, q45⟩ := hin 45 _ 72 rfl rfl ⟨{ on := 45, ground := .data }, by simp, rfl, rfl⟩
       have q45 := fact_get (P := isVal (Vl.mk 4 0 [(Vl.mk 5 0 [(Vl.mk 2 97 [])])])) rfl q45
       obtain ⟨zs45, r45, hat45⟩ := q45
       subst r45
       unfold Oper.wp execOp
       go_simp
       refine (eapart_eq (n := 1) hat44 hat45 (by decide +kernel)).mono ?_
       rintro e wn ⟨rfl, hbn⟩
       exact hK _ _ (hB.trans (hbn.mono hB.size)) (KeepsC.of_below hbn) (fact_put (P := isEq (.int .i64 (1))) rfl rfl)
     refine AllG.cons (k' := 48) rfl ?_ ?_
     · intro a' w' hB hk hin KK hK
       obtain ⟨v46, e46, q46⟩ := hin 46 _ 73 rfl rfl ⟨{ on := 46, ground := .data }, by simp, rfl, rfl⟩
       have q46 := fact_get (P := isEq (.int .i64 (1))) rfl q46
       have q46' : v46 = .int .i64 (1) := q46
       subst q46'
       unfold Oper.wp execOp
       go_simp
       exact hK _ _ hB (KeepsC.of_below (Below.refl _ _)) (fact_put (P := isEq (.bool true)) rfl rfl)
     refine AllG.cons (k' := 49) rfl ?_ ?_
     · intro a' w' hB hk hin KK hK
       obtain ⟨v47, e47, q47⟩ := hin 39 _ 66 rfl rfl ⟨{ on := 39, ground := .data }, by simp, rfl, rfl⟩
       have q47 := fact_get (P := isEq (.bool true)) rfl q47
       have q47' : v47 = .bool true := q47
       subst q47'
       obtain ⟨v48, e48, q48⟩ := hin 47 _ 74 rfl rfl ⟨{ on := 47, ground := .data }, by simp, rfl, rfl⟩
       have q48 := fact_get (P := isEq (.bool true)) rfl q48
       have q48' : v48 = .bool true := q48
       subst q48'
       unfold Oper.wp execOp
       go_simp
       exact hK _ _ hB (KeepsC.of_below (Below.refl _ _)) (fact_put (P := isEq (.bool true)) rfl rfl)
     refine AllG.cons (k' := 50) rfl ?_ ?_
     · intro a' w' hB hk hin KK hK
       obtain ⟨v49, e49, q49⟩ := hin 48 _ 75 rfl rfl ⟨{ on := 48, ground := .data }, by simp, rfl, rfl⟩
       have q49 := fact_get (P := isEq (.bool true)) rfl q49
       have q49' : v49 = .bool true := q49
       subst q49'
       unfold Oper.wp execOp
       go_simp
       exact hK _ _ hB (KeepsC.of_below (Below.refl _ _)) (fact_put (P := isEq (.bool true)) rfl rfl)
     refine AllG.cons (k' := 51) rfl ?_ ?_
     · intro a' w' hB hk hin KK hK
       unfold Oper.wp execOp
       go_simp
       refine (byt_walk 97 (by decide) w').mono ?_
       rintro e wn ⟨zz, rfl, hat, hbn⟩
       exact hK _ _ (hB.trans (hbn.mono hB.size)) (KeepsC.of_below hbn) (fact_put (P := isVal (Vl.mk 2 97 [])) rfl ⟨zz, rfl, hat⟩)
     refine AllG.cons (k' := 52) rfl ?_ ?_
     · intro a' w' hB hk hin KK hK
       obtain ⟨v50, e50, q50⟩ := hin 50 _ 77 rfl rfl ⟨{ on := 50, ground := .data }, by simp, rfl, rfl⟩
       have q50 := fact_get (P := isVal (Vl.mk 2 97 [])) rfl q50
       obtain ⟨zs50, r50, hat50⟩ := q50
       subst r50
       unfold Oper.wp execOp
       go_simp
       refine (left_walk hat50).mono ?_
       rintro e wn ⟨zz, rfl, hat, hbn⟩
       exact hK _ _ (hB.trans (hbn.mono hB.size)) (KeepsC.of_below hbn) (fact_put (P := isVal (Vl.mk 4 0 [(Vl.mk 2 97 [])])) rfl ⟨zz, rfl, hat⟩)
     refine AllG.cons (k' := 53) rfl ?_ ?_
     · intro a' w' hB hk hin KK hK
       refine wp_load_valK _ rfl (w2.heap.size + 1) 0 _ (eval_tmp (by rw [hk 1 (by kernel_rfl)]; rfl)) (BX1.out _ hB).1 ?_
       exact hK _ _ hB (KeepsC.of_below (Below.refl _ _)) (fact_put (P := isVal (Vl.mk 6 0 [])) rfl ⟨_, rfl, (BX1.out _ hB).2⟩)
     refine AllG.cons (k' := 54) rfl ?_ ?_
     · intro a' w' hB hk hin KK hK
       obtain ⟨v51, e51, q51⟩ := hin 52 _ 79 rfl rfl ⟨{ on := 52, ground := .data }, by simp, rfl, rfl⟩
       have q51 := fact_get (P := isVal (Vl.mk 6 0 [])) rfl q51
       obtain ⟨zs51, r51, hat51⟩ := q51
       subst r51
       unfold Oper.wp execOp
       go_simp
       refine (left_walk hat51).mono ?_
       rintro e wn ⟨zz, rfl, hat, hbn⟩
       exact hK _ _ (hB.trans (hbn.mono hB.size)) (KeepsC.of_below hbn) (fact_put (P := isVal (Vl.mk 4 0 [(Vl.mk 6 0 [])])) rfl ⟨zz, rfl, hat⟩)
     refine AllG.cons (k' := 55) rfl ?_ ?_
     · intro a' w' hB hk hin KK hK
       obtain ⟨v52, e52, q52⟩ := hin 51 _ 78 rfl rfl ⟨{ on := 51, ground := .data }, by simp, rfl, rfl⟩
       have q52 := fact_get (P := isVal (Vl.mk 4 0 [(Vl.mk 2 97 [])])) rfl q52
       obtain ⟨zs52, r52, hat52⟩ := q52
       subst r52
       obtain ⟨v53, e53, q53⟩ := hin 53 _ 80 rfl rfl ⟨{ on := 53, ground := .data }, by simp, rfl, rfl⟩
       have q53 := fact_get (P := isVal (Vl.mk 4 0 [(Vl.mk 6 0 [])])) rfl q53
       obtain ⟨zs53, r53, hat53⟩ := q53
       subst r53
       unfold Oper.wp execOp
       go_simp
       refine (eapart_eq (n := 1) hat52 hat53 (by decide +kernel)).mono ?_
       rintro e wn ⟨rfl, hbn⟩
       exact hK _ _ (hB.trans (hbn.mono hB.size)) (KeepsC.of_below hbn) (fact_put (P := isEq (.int .i64 (1))) rfl rfl)
     refine AllG.cons (k' := 56) rfl ?_ ?_
     · intro a' w' hB hk hin KK hK
       obtain ⟨v54, e54, q54⟩ := hin 54 _ 81 rfl rfl ⟨{ on := 54, ground := .data }, by simp, rfl, rfl⟩
       have q54 := fact_get (P := isEq (.int .i64 (1))) rfl q54
       have q54' : v54 = .int .i64 (1) := q54
       subst q54'
       unfold Oper.wp execOp
       go_simp
       exact hK _ _ hB (KeepsC.of_below (Below.refl _ _)) (fact_put (P := isEq (.bool true)) rfl rfl)
     refine AllG.cons (k' := 57) rfl ?_ ?_
     · intro a' w' hB hk hin KK hK
       obtain ⟨v55, e55, q55⟩ := hin 49 _ 76 rfl rfl ⟨{ on := 49, ground := .data }, by simp, rfl, rfl⟩
       have q55 := fact_get (P := isEq (.bool true)) rfl q55
       have q55' : v55 = .bool true := q55
       subst q55'
       obtain ⟨v56, e56, q56⟩ := hin 55 _ 82 rfl rfl ⟨{ on := 55, ground := .data }, by simp, rfl, rfl⟩
       have q56 := fact_get (P := isEq (.bool true)) rfl q56
       have q56' : v56 = .bool true := q56
       subst q56'
       unfold Oper.wp execOp
       go_simp
       exact hK _ _ hB (KeepsC.of_below (Below.refl _ _)) (fact_put (P := isEq (.bool true)) rfl rfl)
     refine AllG.cons (k' := 58) rfl ?_ ?_
     · intro a' w' hB hk hin KK hK
       obtain ⟨v57, e57, q57⟩ := hin 56 _ 83 rfl rfl ⟨{ on := 56, ground := .data }, by simp, rfl, rfl⟩
       have q57 := fact_get (P := isEq (.bool true)) rfl q57
       have q57' : v57 = .bool true := q57
       subst q57'
       unfold Oper.wp execOp
       go_simp
       exact hK _ _ hB (KeepsC.of_below (Below.refl _ _)) (fact_put (P := isEq (.bool true)) rfl rfl)
     refine AllG.cons (k' := 59) rfl ?_ ?_
     · intro a' w' hB hk hin KK hK
       unfold Oper.wp execOp
       go_simp
       refine (byt_walk 97 (by decide) w').mono ?_
       rintro e wn ⟨zz, rfl, hat, hbn⟩
       exact hK _ _ (hB.trans (hbn.mono hB.size)) (KeepsC.of_below hbn) (fact_put (P := isVal (Vl.mk 2 97 [])) rfl ⟨zz, rfl, hat⟩)
     refine AllG.cons (k' := 60) rfl ?_ ?_
     · intro a' w' hB hk hin KK hK
       refine wp_load_valK _ rfl (w2.heap.size + 1) 0 _ (eval_tmp (by rw [hk 1 (by kernel_rfl)]; rfl)) (BX1.out _ hB).1 ?_
       exact hK _ _ hB (KeepsC.of_below (Below.refl _ _)) (fact_put (P := isVal (Vl.mk 6 0 [])) rfl ⟨_, rfl, (BX1.out _ hB).2⟩)
     refine AllG.cons (k' := 61) rfl ?_ ?_
     · intro a' w' hB hk hin KK hK
       obtain ⟨v58, e58, q58⟩ := hin 58 _ 85 rfl rfl ⟨{ on := 58, ground := .data }, by simp, rfl, rfl⟩
       have q58 := fact_get (P := isVal (Vl.mk 2 97 [])) rfl q58
       obtain ⟨zs58, r58, hat58⟩ := q58
       subst r58
       obtain ⟨v59, e59, q59⟩ := hin 59 _ 86 rfl rfl ⟨{ on := 59, ground := .data }, by simp, rfl, rfl⟩
       have q59 := fact_get (P := isVal (Vl.mk 6 0 [])) rfl q59
       obtain ⟨zs59, r59, hat59⟩ := q59
       subst r59
       unfold Oper.wp execOp
       go_simp
       refine (eapart_eq (n := 0) hat58 hat59 (by decide +kernel)).mono ?_
       rintro e wn ⟨rfl, hbn⟩
       exact hK _ _ (hB.trans (hbn.mono hB.size)) (KeepsC.of_below hbn) (fact_put (P := isEq (.int .i64 (0))) rfl rfl)
     refine AllG.cons (k' := 62) rfl ?_ ?_
     · intro a' w' hB hk hin KK hK
       obtain ⟨v60, e60, q60⟩ := hin 60 _ 87 rfl rfl ⟨{ on := 60, ground := .data }, by simp, rfl, rfl⟩
       have q60 := fact_get (P := isEq (.int .i64 (0))) rfl q60
       have q60' : v60 = .int .i64 (0) := q60
       subst q60'
       unfold Oper.wp execOp
       go_simp
       exact hK _ _ hB (KeepsC.of_below (Below.refl _ _)) (fact_put (P := isEq (.bool true)) rfl rfl)
     refine AllG.cons (k' := 63) rfl ?_ ?_
     · intro a' w' hB hk hin KK hK
       obtain ⟨v61, e61, q61⟩ := hin 57 _ 84 rfl rfl ⟨{ on := 57, ground := .data }, by simp, rfl, rfl⟩
       have q61 := fact_get (P := isEq (.bool true)) rfl q61
       have q61' : v61 = .bool true := q61
       subst q61'
       obtain ⟨v62, e62, q62⟩ := hin 61 _ 88 rfl rfl ⟨{ on := 61, ground := .data }, by simp, rfl, rfl⟩
       have q62 := fact_get (P := isEq (.bool true)) rfl q62
       have q62' : v62 = .bool true := q62
       subst q62'
       unfold Oper.wp execOp
       go_simp
       exact hK _ _ hB (KeepsC.of_below (Below.refl _ _)) (fact_put (P := isEq (.bool true)) rfl rfl)
     refine AllG.cons (k' := 64) rfl ?_ ?_
     · intro a' w' hB hk hin KK hK
       obtain ⟨v63, e63, q63⟩ := hin 62 _ 89 rfl rfl ⟨{ on := 62, ground := .data }, by simp, rfl, rfl⟩
       have q63 := fact_get (P := isEq (.bool true)) rfl q63
       have q63' : v63 = .bool true := q63
       subst q63'
       unfold Oper.wp execOp
       go_simp
       exact hK _ _ hB (KeepsC.of_below (Below.refl _ _)) (fact_put (P := isEq (.bool true)) rfl rfl)
     exact AllG.nil
   case hend =>
    intro a' w' hB hdef hsz hk hvals
    obtain ⟨v0', hv0, hvt0⟩ := hvals 63 _ 0 rfl rfl
    have hvt0' : v0' = .bool true := fact_get (P := isEq (.bool true)) rfl hvt0
    have hf0 : a'.tmps.getD 0 undef = v0' := by rw [Array.getD_eq_getD_getElem?, hv0]; rfl
    have heq := act_eq hdef hsz hk
    refine hMet a' w' (Met.intro (hR a' w' ?_))
    refine ⟨a'.tmps.getD 0 undef, a'.tmps.getD 27 undef, a'.tmps.getD 28 undef, a'.tmps.getD 29 undef, a'.tmps.getD 30 undef, a'.tmps.getD 31 undef, a'.tmps.getD 32 undef, a'.tmps.getD 33 undef, a'.tmps.getD 34 undef, a'.tmps.getD 35 undef, a'.tmps.getD 36 undef, a'.tmps.getD 37 undef, a'.tmps.getD 38 undef, a'.tmps.getD 39 undef, a'.tmps.getD 40 undef, a'.tmps.getD 41 undef, a'.tmps.getD 42 undef, a'.tmps.getD 43 undef, a'.tmps.getD 44 undef, a'.tmps.getD 45 undef, a'.tmps.getD 46 undef, a'.tmps.getD 47 undef, a'.tmps.getD 48 undef, a'.tmps.getD 49 undef, a'.tmps.getD 50 undef, a'.tmps.getD 51 undef, a'.tmps.getD 52 undef, a'.tmps.getD 53 undef, a'.tmps.getD 54 undef, a'.tmps.getD 55 undef, a'.tmps.getD 56 undef, a'.tmps.getD 57 undef, a'.tmps.getD 58 undef, a'.tmps.getD 59 undef, a'.tmps.getD 60 undef, a'.tmps.getD 61 undef, a'.tmps.getD 62 undef, a'.tmps.getD 63 undef, a'.tmps.getD 64 undef, a'.tmps.getD 65 undef, a'.tmps.getD 66 undef, a'.tmps.getD 67 undef, a'.tmps.getD 68 undef, a'.tmps.getD 69 undef, a'.tmps.getD 70 undef, a'.tmps.getD 71 undef, a'.tmps.getD 72 undef, a'.tmps.getD 73 undef, a'.tmps.getD 74 undef, a'.tmps.getD 75 undef, a'.tmps.getD 76 undef, a'.tmps.getD 77 undef, a'.tmps.getD 78 undef, a'.tmps.getD 79 undef, a'.tmps.getD 80 undef, a'.tmps.getD 81 undef, a'.tmps.getD 82 undef, a'.tmps.getD 83 undef, a'.tmps.getD 84 undef, a'.tmps.getD 85 undef, a'.tmps.getD 86 undef, a'.tmps.getD 87 undef, a'.tmps.getD 88 undef, a'.tmps.getD 89 undef, ⟨by rw [hf0]; exact hvt0', hB⟩, heq.trans ?_⟩
    kernel_rfl
  case rest =>
  obtain ⟨rfl, hBc⟩ := hcut
  have HE := Lib.hid (et3 H3.out (et3 H5.out hBc))
  clear hBc
  go_wp2_with fail
  go_ret
  exact ⟨rfl, HE.out⟩
end V
end Go.Proofs.Ytblgjcolmaidlaa
