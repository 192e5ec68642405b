/- law 10's awake. -/
import Derived.Test.YtohgmpopecckeaaClosed
namespace Go.Proofs.Ytohgmpopecckeaa
namespace V
set_option maxRecDepth 100000
open Go.RowKit
def sA : BitVec 256 := setOf [97]
def sB : BitVec 256 := setOf [98]
theorem hop {w0 X wN : World} (hb : Below X.heap.size X wN) (bx : Below w0.heap.size w0 X) : Below w0.heap.size w0 wN := bx.trans (hb.mono bx.size)

def awF (B0 : Nat) : List Fact := [
  isVal (Vl.mk 3 0 [(Vl.mk 2 97 []), (Vl.mk 2 98 [])]),
  isText [40, 54, 49, 44, 54, 50, 41],
  isEq (.bool true),
  isEq (.bool true),
  isVal (Vl.mk 3 0 [(Vl.mk 2 97 []), (Vl.mk 2 98 [])]),
  isBytes [97, 98],
  isText [97, 98],
  isEq (.bool true),
  isEq (.bool true),
  isEq (.bool true),
  isLit B0 [97],
  isCore (K.Cr.mk 2 sA 0 []),
  isLit B0 [98],
  isCore (K.Cr.mk 2 sB 0 []),
  isCore (K.Cr.mk 3 0 0 [(K.Cr.mk 2 sA 0 []), (K.Cr.mk 2 sB 0 [])]),
  isVal (Vl.mk 3 0 [(Vl.mk 2 97 []), (Vl.mk 2 98 [])]),
  isEq (.bool true),
  isEq (.bool true),
  isEq (.bool true),
  isVal (Vl.mk 3 0 [(Vl.mk 2 97 []), (Vl.mk 2 98 [])]),
  isEq (.int .i64 3),
  isEq (.bool true),
  isEq (.bool true),
  isEq (.bool true)]
theorem awF_stable (B0 : Nat) : AllG (fun _ P => Stable P) 0 (awF B0) := by
  unfold awF
  refine AllG.cons (k' := 1) rfl (isVal.stable _) ?_
  refine AllG.cons (k' := 2) rfl (isText.stable _) ?_
  refine AllG.cons (k' := 3) rfl (isEq.stable _) ?_
  refine AllG.cons (k' := 4) rfl (isEq.stable _) ?_
  refine AllG.cons (k' := 5) rfl (isVal.stable _) ?_
  refine AllG.cons (k' := 6) rfl (isBytes.stable _) ?_
  refine AllG.cons (k' := 7) rfl (isText.stable _) ?_
  refine AllG.cons (k' := 8) rfl (isEq.stable _) ?_
  refine AllG.cons (k' := 9) rfl (isEq.stable _) ?_
  refine AllG.cons (k' := 10) rfl (isEq.stable _) ?_
  refine AllG.cons (k' := 11) rfl (isLit.stable _ _) ?_
  refine AllG.cons (k' := 12) rfl (isCore.stable _) ?_
  refine AllG.cons (k' := 13) rfl (isLit.stable _ _) ?_
  refine AllG.cons (k' := 14) rfl (isCore.stable _) ?_
  refine AllG.cons (k' := 15) rfl (isCore.stable _) ?_
  refine AllG.cons (k' := 16) rfl (isVal.stable _) ?_
  refine AllG.cons (k' := 17) rfl (isEq.stable _) ?_
  refine AllG.cons (k' := 18) rfl (isEq.stable _) ?_
  refine AllG.cons (k' := 19) rfl (isEq.stable _) ?_
  refine AllG.cons (k' := 20) rfl (isVal.stable _) ?_
  refine AllG.cons (k' := 21) rfl (isEq.stable _) ?_
  refine AllG.cons (k' := 22) rfl (isEq.stable _) ?_
  refine AllG.cons (k' := 23) rfl (isEq.stable _) ?_
  refine AllG.cons (k' := 24) rfl (isEq.stable _) ?_
  exact AllG.nil

set_option maxHeartbeats 16000000 in
theorem awake_any (w : World) : Calls Try.prog 4 #[] w fun e w' => e = .returned (.bool true) ∧ Below w.heap.size w w' := by
  have htwo := two_walk 97 98 (by decide) (by decide) w
  go_enter Try.func4, Try.ntmps4
  go_upto_region 2 with (first
    | (go_at_call 22; refine htwo.mono ?_; clear htwo; rintro e w1 ⟨zs, rfl, hat, hb⟩; have ha := at_lit hat; obtain ⟨k1, z1, a1, len1, cap1, rfl⟩ := ha; have Hat := Lib.hid hat; have Hb := Lib.hid hb; clear hat hb)
    | fail)
  obtain ⟨b1, hb1⟩ : ∃ b1, b1 = w1.heap.size := ⟨_, rfl⟩
  obtain ⟨W0, hW0⟩ : ∃ W0, W0 = w1.alloc (.cells #[.int .i64 k1, .int .u8 z1, .slice a1 len1 cap1] 30) := ⟨_, rfl⟩
  have hbx : ValIn W0 b1 #[.int .i64 k1, .int .u8 z1, .slice a1 len1 cap1] := by rw [hW0, hb1]; exact World.alloc_heap_new _ _
  have hS : Below w1.heap.size w1 W0 := by rw [hW0]; exact K.alloc_below _ _
  rw [← hW0, ← hb1]
  have BX1 := Lib.hid (fun (w' : World) (h : Below W0.heap.size W0 w') => And.intro (val3_in (cs := [.int .i64 k1, .int .u8 z1, .slice a1 len1 cap1]) (val_later h hbx) rfl) (Vl.at_below (hop h hS) (Nat.le_refl _) _ _ Hat.out))
  have HW := Lib.hid (Hb.out.trans (hS.mono Hb.out.size))
  clear hbx hS hW0 hb1
  go_cut [0] from 3 to 25 (fun v wx => v = .bool true ∧ Below W0.heap.size W0 wx)
  case first =>
   rename_i J K' hR hMet

   refine wp_region_guards (factAt (awF W0.heap.size)) (W0 := W0) (by kernel_rfl) (by kernel_rfl) (by kernel_rfl) (Below.refl _ _) (fun i v w w' h hk => factAt_stable (awF_stable _) i v w w' h hk) [3, 9, 18] (by kernel_rfl) ?hgu ?hop ?hend
   case hgu =>
     intro j hj v w h
     simp only [List.mem_cons, List.not_mem_nil, or_false] at hj
     rcases hj with rfl | rfl | rfl
     · exact fact_get (P := isEq (.bool true)) rfl h
     · exact fact_get (P := isEq (.bool true)) rfl h
     · exact fact_get (P := isEq (.bool true)) rfl h
   case hop =>
     refine AllG.get0 ?_
     refine AllG.cons (k' := 1) rfl ?_ ?_
     · intro a' w' hB hk hin KK hK
       refine wp_load_valK _ rfl b1 0 _ (eval_tmp (by rw [hk 1 (by kernel_rfl)]; rfl)) (BX1.out _ hB).1 ?_
       exact hK _ _ hB (KeepsC.of_below (Below.refl _ _)) (fact_put (P := isVal (Vl.mk 3 0 [(Vl.mk 2 97 []), (Vl.mk 2 98 [])])) rfl ⟨_, rfl, (BX1.out _ hB).2⟩)
     refine AllG.cons (k' := 2) rfl ?_ ?_
     · intro a' w' hB hk hin KK hK
       obtain ⟨v1, e1, q1⟩ := hin 0 _ 3 rfl rfl ⟨{ on := 0, ground := .data }, by simp, rfl, rfl⟩
       have q1 := fact_get (P := isVal (Vl.mk 3 0 [(Vl.mk 2 97 []), (Vl.mk 2 98 [])])) rfl q1
       obtain ⟨zs1, r1, hat1⟩ := q1
       subst r1
       unfold Oper.wp execOp
       go_simp
       refine (text_eq (l := [40, 54, 49, 44, 54, 50, 41]) hat1 (by decide +kernel)).mono ?_
       rintro e wn ⟨⟨t, rfl, ht⟩, hbn⟩
       exact hK _ _ (hB.trans (hbn.mono hB.size)) (KeepsC.of_below hbn) (fact_put (P := isText [40, 54, 49, 44, 54, 50, 41]) rfl ⟨t, rfl, ht⟩)
     refine AllG.cons (k' := 3) rfl ?_ ?_
     · intro a' w' hB hk hin KK hK
       obtain ⟨v2, e2, q2⟩ := hin 1 _ 4 rfl rfl ⟨{ on := 1, ground := .data }, by simp, rfl, rfl⟩
       have q2 := fact_get (P := isText [40, 54, 49, 44, 54, 50, 41]) rfl q2
       obtain ⟨t2, r2, ht2⟩ := q2
       obtain rfl : t2 = ⟨#[40, 54, 49, 44, 54, 50, 41]⟩ := of_nats ht2
       subst r2
       unfold Oper.wp execOp
       go_simp
       exact hK _ _ hB (KeepsC.of_below (Below.refl _ _)) (fact_put (P := isEq (.bool true)) rfl rfl)
     refine AllG.cons (k' := 4) rfl ?_ ?_
     · intro a' w' hB hk hin KK hK
       obtain ⟨v3, e3, q3⟩ := hin 2 _ 5 rfl rfl ⟨{ on := 2, ground := .data }, by simp, rfl, rfl⟩
       have q3 := fact_get (P := isEq (.bool true)) rfl q3
       have q3' : v3 = .bool true := q3
       subst q3'
       unfold Oper.wp execOp
       go_simp
       exact hK _ _ hB (KeepsC.of_below (Below.refl _ _)) (fact_put (P := isEq (.bool true)) rfl rfl)
     refine AllG.cons (k' := 5) rfl ?_ ?_
     · intro a' w' hB hk hin KK hK
       refine wp_load_valK _ rfl b1 0 _ (eval_tmp (by rw [hk 1 (by kernel_rfl)]; rfl)) (BX1.out _ hB).1 ?_
       exact hK _ _ hB (KeepsC.of_below (Below.refl _ _)) (fact_put (P := isVal (Vl.mk 3 0 [(Vl.mk 2 97 []), (Vl.mk 2 98 [])])) rfl ⟨_, rfl, (BX1.out _ hB).2⟩)
     refine AllG.cons (k' := 6) rfl ?_ ?_
     · intro a' w' hB hk hin KK hK
       obtain ⟨v4, e4, q4⟩ := hin 4 _ 7 rfl rfl ⟨{ on := 4, ground := .data }, by simp, rfl, rfl⟩
       have q4 := fact_get (P := isVal (Vl.mk 3 0 [(Vl.mk 2 97 []), (Vl.mk 2 98 [])])) rfl q4
       obtain ⟨zs4, r4, hat4⟩ := q4
       subst r4
       unfold Oper.wp execOp
       go_simp
       refine (flat_eq hat4 (l := [97, 98]) (by decide +kernel)).mono ?_
       rintro e wn ⟨p, c, rfl, hy, hbn⟩
       exact hK _ _ (hB.trans (hbn.mono hB.size)) (KeepsC.of_below hbn) (fact_put (P := isBytes [97, 98]) rfl ⟨p, c, rfl, hy⟩)
     refine AllG.cons (k' := 7) rfl ?_ ?_
     · intro a' w' hB hk hin KK hK
       obtain ⟨v5, e5, q5⟩ := hin 5 _ 8 rfl rfl ⟨{ on := 5, ground := .data }, by simp, rfl, rfl⟩
       have q5 := fact_get (P := isBytes [97, 98]) rfl q5
       obtain ⟨p5, c5, r5, hy5⟩ := q5
       subst r5
       have hst : (convert 46 9 _).run Try.prog w' = _ := string_at hy5
       unfold Oper.wp execOp
       simp only [eval_tmp e5, Sem.run_bind, Sem.run_pure, Result.andThen_ok, hst]
       exact hK _ _ hB (KeepsC.of_below (Below.refl _ _)) (fact_put (P := isText [97, 98]) rfl ⟨_, rfl, nats_bytes hy5.2.1⟩)
     refine AllG.cons (k' := 8) rfl ?_ ?_
     · intro a' w' hB hk hin KK hK
       obtain ⟨v6, e6, q6⟩ := hin 6 _ 9 rfl rfl ⟨{ on := 6, ground := .data }, by simp, rfl, rfl⟩
       have q6 := fact_get (P := isText [97, 98]) rfl q6
       obtain ⟨t6, r6, ht6⟩ := q6
       obtain rfl : t6 = ⟨#[97, 98]⟩ := of_nats ht6
       subst r6
       unfold Oper.wp execOp
       go_simp
       exact hK _ _ hB (KeepsC.of_below (Below.refl _ _)) (fact_put (P := isEq (.bool true)) rfl rfl)
     refine AllG.cons (k' := 9) rfl ?_ ?_
     · intro a' w' hB hk hin KK hK
       obtain ⟨v7, e7, q7⟩ := hin 3 _ 6 rfl rfl ⟨{ on := 3, ground := .data }, by simp, rfl, rfl⟩
       have q7 := fact_get (P := isEq (.bool true)) rfl q7
       have q7' : v7 = .bool true := q7
       subst q7'
       obtain ⟨v8, e8, q8⟩ := hin 7 _ 10 rfl rfl ⟨{ on := 7, ground := .data }, by simp, rfl, rfl⟩
       have q8 := fact_get (P := isEq (.bool true)) rfl q8
       have q8' : v8 = .bool true := q8
       subst q8'
       unfold Oper.wp execOp
       go_simp
       exact hK _ _ hB (KeepsC.of_below (Below.refl _ _)) (fact_put (P := isEq (.bool true)) rfl rfl)
     refine AllG.cons (k' := 10) rfl ?_ ?_
     · intro a' w' hB hk hin KK hK
       obtain ⟨v9, e9, q9⟩ := hin 8 _ 11 rfl rfl ⟨{ on := 8, ground := .data }, by simp, rfl, rfl⟩
       have q9 := fact_get (P := isEq (.bool true)) rfl q9
       have q9' : v9 = .bool true := q9
       subst q9'
       unfold Oper.wp execOp
       go_simp
       exact hK _ _ hB (KeepsC.of_below (Below.refl _ _)) (fact_put (P := isEq (.bool true)) rfl rfl)
     refine AllG.cons (k' := 11) rfl ?_ ?_
     · intro a' w' hB hk hin KK hK
       unfold Oper.wp execOp
       go_simp
       exact hK _ _ (hB.alloc hB.size _) (KeepsC.of_below ((Below.refl _ _).alloc (Nat.le_refl _) _)) (fact_put (P := isLit _ [97]) rfl ⟨w'.heap.size, _, _, rfl, World.alloc_heap_new _ _, bytes_lit w' [97] #[.int .u8 97] rfl (by decide) (by decide), hB.size⟩)
     refine AllG.cons (k' := 12) rfl ?_ ?_
     · intro a' w' hB hk hin KK hK
       obtain ⟨v10, e10, q10⟩ := hin 10 _ 13 rfl rfl ⟨{ on := 10, ground := .data }, by simp, rfl, rfl⟩
       have q10 := fact_get (P := isLit _ [97]) rfl q10
       obtain ⟨b10, cs10, f10, r10, hh10, hy10, hz10⟩ := q10
       subst r10
       unfold Oper.wp execOp
       go_simp
       refine (ch_eq (s := sA) hy10 rfl).mono ?_
       rintro e wn ⟨zz, rfl, hat, hbn⟩
       exact hK _ _ (hB.trans (hbn.mono hB.size)) (KeepsC.of_below hbn) (fact_put (P := isCore (K.Cr.mk 2 sA 0 [])) rfl ⟨zz, rfl, hat⟩)
     refine AllG.cons (k' := 13) rfl ?_ ?_
     · intro a' w' hB hk hin KK hK
       unfold Oper.wp execOp
       go_simp
       exact hK _ _ (hB.alloc hB.size _) (KeepsC.of_below ((Below.refl _ _).alloc (Nat.le_refl _) _)) (fact_put (P := isLit _ [98]) rfl ⟨w'.heap.size, _, _, rfl, World.alloc_heap_new _ _, bytes_lit w' [98] #[.int .u8 98] rfl (by decide) (by decide), hB.size⟩)
     refine AllG.cons (k' := 14) rfl ?_ ?_
     · intro a' w' hB hk hin KK hK
       obtain ⟨v11, e11, q11⟩ := hin 12 _ 15 rfl rfl ⟨{ on := 12, ground := .data }, by simp, rfl, rfl⟩
       have q11 := fact_get (P := isLit _ [98]) rfl q11
       obtain ⟨b11, cs11, f11, r11, hh11, hy11, hz11⟩ := q11
       subst r11
       unfold Oper.wp execOp
       go_simp
       refine (ch_eq (s := sB) hy11 rfl).mono ?_
       rintro e wn ⟨zz, rfl, hat, hbn⟩
       exact hK _ _ (hB.trans (hbn.mono hB.size)) (KeepsC.of_below hbn) (fact_put (P := isCore (K.Cr.mk 2 sB 0 [])) rfl ⟨zz, rfl, hat⟩)
     refine AllG.cons (k' := 15) rfl ?_ ?_
     · intro a' w' hB hk hin KK hK
       obtain ⟨v12, e12, q12⟩ := hin 11 _ 14 rfl rfl ⟨{ on := 11, ground := .data }, by simp, rfl, rfl⟩
       have q12 := fact_get (P := isCore (K.Cr.mk 2 sA 0 [])) rfl q12
       obtain ⟨zs12, r12, hat12⟩ := q12
       subst r12
       obtain ⟨v13, e13, q13⟩ := hin 13 _ 16 rfl rfl ⟨{ on := 13, ground := .data }, by simp, rfl, rfl⟩
       have q13 := fact_get (P := isCore (K.Cr.mk 2 sB 0 [])) rfl q13
       obtain ⟨zs13, r13, hat13⟩ := q13
       subst r13
       unfold Oper.wp execOp
       go_simp
       refine (K.seq_walk hat12 hat13).mono ?_
       rintro e wn ⟨zz, rfl, hat, hbn⟩
       exact hK _ _ (hB.trans (hbn.mono hB.size)) (KeepsC.of_below hbn) (fact_put (P := isCore (K.Cr.mk 3 0 0 [(K.Cr.mk 2 sA 0 []), (K.Cr.mk 2 sB 0 [])])) rfl ⟨zz, rfl, hat⟩)
     refine AllG.cons (k' := 16) rfl ?_ ?_
     · intro a' w' hB hk hin KK hK
       refine wp_load_valK _ rfl b1 0 _ (eval_tmp (by rw [hk 1 (by kernel_rfl)]; rfl)) (BX1.out _ hB).1 ?_
       exact hK _ _ hB (KeepsC.of_below (Below.refl _ _)) (fact_put (P := isVal (Vl.mk 3 0 [(Vl.mk 2 97 []), (Vl.mk 2 98 [])])) rfl ⟨_, rfl, (BX1.out _ hB).2⟩)
     refine AllG.cons (k' := 17) rfl ?_ ?_
     · intro a' w' hB hk hin KK hK
       obtain ⟨v14, e14, q14⟩ := hin 14 _ 17 rfl rfl ⟨{ on := 14, ground := .data }, by simp, rfl, rfl⟩
       have q14 := fact_get (P := isCore (K.Cr.mk 3 0 0 [(K.Cr.mk 2 sA 0 []), (K.Cr.mk 2 sB 0 [])])) rfl q14
       obtain ⟨zs14, r14, hat14⟩ := q14
       subst r14
       obtain ⟨v15, e15, q15⟩ := hin 15 _ 18 rfl rfl ⟨{ on := 15, ground := .data }, by simp, rfl, rfl⟩
       have q15 := fact_get (P := isVal (Vl.mk 3 0 [(Vl.mk 2 97 []), (Vl.mk 2 98 [])])) rfl q15
       obtain ⟨zs15, r15, hat15⟩ := q15
       subst r15
       unfold Oper.wp execOp
       go_simp
       refine (good_eq (b := true) hat14 hat15 (by decide +kernel)).mono ?_
       rintro e wn ⟨rfl, hbn⟩
       exact hK _ _ (hB.trans (hbn.mono hB.size)) (KeepsC.of_below hbn) (fact_put (P := isEq (.bool true)) rfl rfl)
     refine AllG.cons (k' := 18) rfl ?_ ?_
     · intro a' w' hB hk hin KK hK
       obtain ⟨v16, e16, q16⟩ := hin 9 _ 12 rfl rfl ⟨{ on := 9, ground := .data }, by simp, rfl, rfl⟩
       have q16 := fact_get (P := isEq (.bool true)) rfl q16
       have q16' : v16 = .bool true := q16
       subst q16'
       obtain ⟨v17, e17, q17⟩ := hin 16 _ 19 rfl rfl ⟨{ on := 16, ground := .data }, by simp, rfl, rfl⟩
       have q17 := fact_get (P := isEq (.bool true)) rfl q17
       have q17' : v17 = .bool true := q17
       subst q17'
       unfold Oper.wp execOp
       go_simp
       exact hK _ _ hB (KeepsC.of_below (Below.refl _ _)) (fact_put (P := isEq (.bool true)) rfl rfl)
     refine AllG.cons (k' := 19) rfl ?_ ?_
     · intro a' w' hB hk hin KK hK
       obtain ⟨v18, e18, q18⟩ := hin 17 _ 20 rfl rfl ⟨{ on := 17, ground := .data }, by simp, rfl, rfl⟩
       have q18 := fact_get (P := isEq (.bool true)) rfl q18
       have q18' : v18 = .bool true := q18
       subst q18'
       unfold Oper.wp execOp
       go_simp
       exact hK _ _ hB (KeepsC.of_below (Below.refl _ _)) (fact_put (P := isEq (.bool true)) rfl rfl)
     refine AllG.cons (k' := 20) rfl ?_ ?_
     · intro a' w' hB hk hin KK hK
       refine wp_load_valK _ rfl b1 0 _ (eval_tmp (by rw [hk 1 (by kernel_rfl)]; rfl)) (BX1.out _ hB).1 ?_
       exact hK _ _ hB (KeepsC.of_below (Below.refl _ _)) (fact_put (P := isVal (Vl.mk 3 0 [(Vl.mk 2 97 []), (Vl.mk 2 98 [])])) rfl ⟨_, rfl, (BX1.out _ hB).2⟩)
     refine AllG.cons (k' := 21) rfl ?_ ?_
     · intro a' w' hB hk hin KK hK
       obtain ⟨v19, e19, q19⟩ := hin 19 _ 22 rfl rfl ⟨{ on := 19, ground := .data }, by simp, rfl, rfl⟩
       have q19 := fact_get (P := isVal (Vl.mk 3 0 [(Vl.mk 2 97 []), (Vl.mk 2 98 [])])) rfl q19
       obtain ⟨zs19, r19, hat19⟩ := q19
       subst r19
       unfold Oper.wp execOp
       go_simp
       refine (size_eq (n := 3) hat19 (by decide +kernel)).mono ?_
       rintro e wn ⟨rfl, hbn⟩
       exact hK _ _ (hB.trans (hbn.mono hB.size)) (KeepsC.of_below hbn) (fact_put (P := isEq (.int .i64 3)) rfl rfl)
     refine AllG.cons (k' := 22) rfl ?_ ?_
     · intro a' w' hB hk hin KK hK
       obtain ⟨v20, e20, q20⟩ := hin 20 _ 23 rfl rfl ⟨{ on := 20, ground := .data }, by simp, rfl, rfl⟩
       have q20 := fact_get (P := isEq (.int .i64 3)) rfl q20
       have q20' : v20 = .int .i64 3 := q20
       subst q20'
       unfold Oper.wp execOp
       go_simp
       exact hK _ _ hB (KeepsC.of_below (Below.refl _ _)) (fact_put (P := isEq (.bool true)) rfl rfl)
     refine AllG.cons (k' := 23) rfl ?_ ?_
     · intro a' w' hB hk hin KK hK
       obtain ⟨v21, e21, q21⟩ := hin 18 _ 21 rfl rfl ⟨{ on := 18, ground := .data }, by simp, rfl, rfl⟩
       have q21 := fact_get (P := isEq (.bool true)) rfl q21
       have q21' : v21 = .bool true := q21
       subst q21'
       obtain ⟨v22, e22, q22⟩ := hin 21 _ 24 rfl rfl ⟨{ on := 21, ground := .data }, by simp, rfl, rfl⟩
       have q22 := fact_get (P := isEq (.bool true)) rfl q22
       have q22' : v22 = .bool true := q22
       subst q22'
       unfold Oper.wp execOp
       go_simp
       exact hK _ _ hB (KeepsC.of_below (Below.refl _ _)) (fact_put (P := isEq (.bool true)) rfl rfl)
     refine AllG.cons (k' := 24) rfl ?_ ?_
     · intro a' w' hB hk hin KK hK
       obtain ⟨v23, e23, q23⟩ := hin 22 _ 25 rfl rfl ⟨{ on := 22, ground := .data }, by simp, rfl, rfl⟩
       have q23 := fact_get (P := isEq (.bool true)) rfl q23
       have q23' : v23 = .bool true := q23
       subst q23'
       unfold Oper.wp execOp
       go_simp
       exact hK _ _ hB (KeepsC.of_below (Below.refl _ _)) (fact_put (P := isEq (.bool true)) rfl rfl)
     exact AllG.nil

   case hend =>
    intro a' w' hB hdef hsz hk hvals
    obtain ⟨v, hv, hvt⟩ := hvals 23 _ 0 rfl rfl
    have hvt' := fact_get (P := isEq (.bool true)) rfl hvt
    have hvt2 : v = .bool true := hvt'
    subst hvt2
    have hf0 : a'.tmps.getD 0 undef = .bool true := by rw [Array.getD_eq_getD_getElem?, hv]; rfl
    have heq := act_eq hdef hsz hk
    refine hMet a' w' (Met.intro (hR a' w' ?_))
    refine ⟨a'.tmps.getD 0 undef, a'.tmps.getD 3 undef, a'.tmps.getD 4 undef, a'.tmps.getD 5 undef, a'.tmps.getD 6 undef, a'.tmps.getD 7 undef, a'.tmps.getD 8 undef, a'.tmps.getD 9 undef, a'.tmps.getD 10 undef, a'.tmps.getD 11 undef, a'.tmps.getD 12 undef, a'.tmps.getD 13 undef, a'.tmps.getD 14 undef, a'.tmps.getD 15 undef, a'.tmps.getD 16 undef, a'.tmps.getD 17 undef, a'.tmps.getD 18 undef, a'.tmps.getD 19 undef, a'.tmps.getD 20 undef, a'.tmps.getD 21 undef, a'.tmps.getD 22 undef, a'.tmps.getD 23 undef, a'.tmps.getD 24 undef, a'.tmps.getD 25 undef, ⟨hf0, hB⟩, heq.trans ?_⟩
    kernel_rfl
  case rest =>
   obtain ⟨rfl, hBc⟩ := hcut
   have Hfin := Lib.hid (HW.out.trans (hBc.mono HW.out.size))
   clear hBc
   go_wp2_with fail
   go_ret
   exact ⟨rfl, Hfin.out⟩
end V
end Go.Proofs.Ytohgmpopecckeaa
