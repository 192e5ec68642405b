/- The law CapsKnown, walked. -/
import Derived.Test.YtonhmjfopidacaaDoorCapsLaw
import Derived.Test.YtonhmjfopidacaaDoorAnyGuard2
namespace Go.Proofs.YtonhmjfopidacaaDoor
namespace V
set_option maxRecDepth 100000
open Go.RowKit
theorem bt {a b c : World} (h : Below a.heap.size a b) (h' : Below b.heap.size b c) : Below a.heap.size a c := h.trans (h'.mono h.size)
theorem SpAt.keepsC {w w' : World} {a : Option Addr} {cap : Nat} {l : Sl} (h : SpAt w a cap l) (hk : KeepsC w w') : SpAt w' a cap l := by
  obtain ⟨h1, h2⟩ := h
  refine ⟨h1, ?_⟩
  rcases h2 with h2 | ⟨b, off, e, hc, hlt, hcell⟩
  · exact .inl h2
  · exact .inr ⟨b, off, e, hc, Nat.lt_of_lt_of_le hlt hk.1, fun j hj => ⟨hk.cell (hcell j hj).1, hk.cell (hcell j hj).2⟩⟩
def isOf (l : Sl) (b : Int) : Fact := fun v w => ∃ (a : Option Addr) (cap : Nat), v = .tuple #[.slice a l.length cap, .int .i64 b] ∧ SpAt w a cap l
def isSl (l : Sl) : Fact := fun v w => ∃ (a : Option Addr) (cap : Nat), v = .slice a l.length cap ∧ SpAt w a cap l
theorem isOf.stable (l : Sl) (b : Int) : Stable (isOf l b) := by
  rintro v w w' ⟨a, cap, h1, h2⟩ hk
  exact ⟨a, cap, h1, h2.keepsC hk⟩
theorem isSl.stable (l : Sl) : Stable (isSl l) := by
  rintro v w w' ⟨a, cap, h1, h2⟩ hk
  exact ⟨a, cap, h1, h2.keepsC hk⟩
def kF4 (_B0 : Nat) : List Fact := [
  isCore (K.Cr.mk 5 0 0 [(K.Cr.mk 4 0 0 [(K.Cr.mk 6 0 1 [(K.Cr.mk 2 bA 0 [])]), (K.Cr.mk 6 0 2 [(K.Cr.mk 2 bB 0 [])])])]),
  isVal (Vl.mk 2 97 []),
  isVal (Vl.mk 7 0 [(Vl.mk 2 97 [])]),
  isVal (Vl.mk 4 0 [(Vl.mk 7 0 [(Vl.mk 2 97 [])])]),
  isVal (Vl.mk 2 98 []),
  isVal (Vl.mk 7 0 [(Vl.mk 2 98 [])]),
  isVal (Vl.mk 5 0 [(Vl.mk 7 0 [(Vl.mk 2 98 [])])]),
  isVals [(Vl.mk 4 0 [(Vl.mk 7 0 [(Vl.mk 2 97 [])])]), (Vl.mk 5 0 [(Vl.mk 7 0 [(Vl.mk 2 98 [])])])],
  isVal (Vl.mk 6 0 [(Vl.mk 4 0 [(Vl.mk 7 0 [(Vl.mk 2 97 [])])]), (Vl.mk 5 0 [(Vl.mk 7 0 [(Vl.mk 2 98 [])])])]),
  isOf ([(5, 7), (-1, -1), (6, 7)] : Sl) (0),
  isOf ([(5, 7), (-1, -1), (6, 7)] : Sl) (0),
  isSl ([(5, 7), (-1, -1), (6, 7)] : Sl),
  isEq (.int .i64 0),
  isSl ([(5, 7), (-1, -1), (6, 7)] : Sl),
  isEq (.int .i64 0)]
theorem kF4_stable (B0 : Nat) : AllG (fun _ P => Stable P) 0 (kF4 B0) := by
  unfold kF4
  refine AllG.cons (k' := 1) rfl (isCore.stable _) ?_
  refine AllG.cons (k' := 2) rfl (isVal.stable _) ?_
  refine AllG.cons (k' := 3) rfl (isVal.stable _) ?_
  refine AllG.cons (k' := 4) rfl (isVal.stable _) ?_
  refine AllG.cons (k' := 5) rfl (isVal.stable _) ?_
  refine AllG.cons (k' := 6) rfl (isVal.stable _) ?_
  refine AllG.cons (k' := 7) rfl (isVal.stable _) ?_
  refine AllG.cons (k' := 8) rfl (isVals.stable _) ?_
  refine AllG.cons (k' := 9) rfl (isVal.stable _) ?_
  refine AllG.cons (k' := 10) rfl (isOf.stable _ _) ?_
  refine AllG.cons (k' := 11) rfl (isOf.stable _ _) ?_
  refine AllG.cons (k' := 12) rfl (isSl.stable _) ?_
  refine AllG.cons (k' := 13) rfl (isEq.stable _) ?_
  refine AllG.cons (k' := 14) rfl (isSl.stable _) ?_
  refine AllG.cons (k' := 15) rfl (isEq.stable _) ?_
  exact AllG.nil
def kF6 (_B0 : Nat) : List Fact := [
  isCore (K.Cr.mk 6 0 1 [(K.Cr.mk 4 0 0 [(K.Cr.mk 6 0 2 [(K.Cr.mk 2 bA 0 [])]), (K.Cr.mk 2 bB 0 [])])]),
  isCore (K.Cr.mk 6 0 1 [(K.Cr.mk 4 0 0 [(K.Cr.mk 6 0 2 [(K.Cr.mk 2 bA 0 [])]), (K.Cr.mk 2 bB 0 [])])]),
  isCore (K.Cr.mk 7 0 0 [(K.Cr.mk 6 0 1 [(K.Cr.mk 4 0 0 [(K.Cr.mk 6 0 2 [(K.Cr.mk 2 bA 0 [])]), (K.Cr.mk 2 bB 0 [])])])]),
  isCore (K.Cr.mk 3 0 0 [(K.Cr.mk 6 0 1 [(K.Cr.mk 4 0 0 [(K.Cr.mk 6 0 2 [(K.Cr.mk 2 bA 0 [])]), (K.Cr.mk 2 bB 0 [])])]), (K.Cr.mk 7 0 0 [(K.Cr.mk 6 0 1 [(K.Cr.mk 4 0 0 [(K.Cr.mk 6 0 2 [(K.Cr.mk 2 bA 0 [])]), (K.Cr.mk 2 bB 0 [])])])])]),
  isVal (Vl.mk 2 97 []),
  isVal (Vl.mk 7 0 [(Vl.mk 2 97 [])]),
  isVal (Vl.mk 4 0 [(Vl.mk 7 0 [(Vl.mk 2 97 [])])]),
  isVal (Vl.mk 7 0 [(Vl.mk 4 0 [(Vl.mk 7 0 [(Vl.mk 2 97 [])])])]),
  isVal (Vl.mk 2 98 []),
  isVal (Vl.mk 5 0 [(Vl.mk 2 98 [])]),
  isVal (Vl.mk 7 0 [(Vl.mk 5 0 [(Vl.mk 2 98 [])])]),
  isVal (Vl.mk 3 0 [(Vl.mk 7 0 [(Vl.mk 4 0 [(Vl.mk 7 0 [(Vl.mk 2 97 [])])])]), (Vl.mk 7 0 [(Vl.mk 5 0 [(Vl.mk 2 98 [])])])]),
  isOf ([(0, 2), (1, 2), (-1, -1), (-1, -1)] : Sl) (0),
  isOf ([(0, 2), (1, 2), (-1, -1), (-1, -1)] : Sl) (0),
  isSl ([(0, 2), (1, 2), (-1, -1), (-1, -1)] : Sl),
  isEq (.int .i64 0),
  isSl ([(0, 2), (1, 2), (-1, -1), (-1, -1)] : Sl),
  isEq (.int .i64 0)]
theorem kF6_stable (B0 : Nat) : AllG (fun _ P => Stable P) 0 (kF6 B0) := by
  unfold kF6
  refine AllG.cons (k' := 1) rfl (isCore.stable _) ?_
  refine AllG.cons (k' := 2) rfl (isCore.stable _) ?_
  refine AllG.cons (k' := 3) rfl (isCore.stable _) ?_
  refine AllG.cons (k' := 4) rfl (isCore.stable _) ?_
  refine AllG.cons (k' := 5) rfl (isVal.stable _) ?_
  refine AllG.cons (k' := 6) rfl (isVal.stable _) ?_
  refine AllG.cons (k' := 7) rfl (isVal.stable _) ?_
  refine AllG.cons (k' := 8) rfl (isVal.stable _) ?_
  refine AllG.cons (k' := 9) rfl (isVal.stable _) ?_
  refine AllG.cons (k' := 10) rfl (isVal.stable _) ?_
  refine AllG.cons (k' := 11) rfl (isVal.stable _) ?_
  refine AllG.cons (k' := 12) rfl (isVal.stable _) ?_
  refine AllG.cons (k' := 13) rfl (isOf.stable _ _) ?_
  refine AllG.cons (k' := 14) rfl (isOf.stable _ _) ?_
  refine AllG.cons (k' := 15) rfl (isSl.stable _) ?_
  refine AllG.cons (k' := 16) rfl (isEq.stable _) ?_
  refine AllG.cons (k' := 17) rfl (isSl.stable _) ?_
  refine AllG.cons (k' := 18) rfl (isEq.stable _) ?_
  exact AllG.nil
def kF7 (_B0 : Nat) : List Fact := [
  isCore (K.Cr.mk 5 0 0 [(K.Cr.mk 4 0 0 [(K.Cr.mk 6 0 1 [(K.Cr.mk 2 bA 0 [])]), (K.Cr.mk 6 0 2 [(K.Cr.mk 2 bB 0 [])])])]),
  isVal (Vl.mk 6 0 []),
  isOf ([(3, 3)] : Sl) (0),
  isOf ([(3, 3)] : Sl) (0),
  isSl ([(3, 3)] : Sl),
  isEq (.int .i64 0),
  isSl ([(3, 3)] : Sl),
  isEq (.int .i64 0)]
theorem kF7_stable (B0 : Nat) : AllG (fun _ P => Stable P) 0 (kF7 B0) := by
  unfold kF7
  refine AllG.cons (k' := 1) rfl (isCore.stable _) ?_
  refine AllG.cons (k' := 2) rfl (isVal.stable _) ?_
  refine AllG.cons (k' := 3) rfl (isOf.stable _ _) ?_
  refine AllG.cons (k' := 4) rfl (isOf.stable _ _) ?_
  refine AllG.cons (k' := 5) rfl (isSl.stable _) ?_
  refine AllG.cons (k' := 6) rfl (isEq.stable _) ?_
  refine AllG.cons (k' := 7) rfl (isSl.stable _) ?_
  refine AllG.cons (k' := 8) rfl (isEq.stable _) ?_
  exact AllG.nil
def kF9 (_B0 : Nat) : List Fact := [
  isCore (K.Cr.mk 5 0 0 [(K.Cr.mk 4 0 0 [(K.Cr.mk 6 0 1 [(K.Cr.mk 2 bA 0 [])]), (K.Cr.mk 6 0 2 [(K.Cr.mk 2 bB 0 [])])])]),
  isVal (Vl.mk 2 97 []),
  isOf ([] : Sl) (1),
  isOf ([] : Sl) (1),
  isSl ([] : Sl),
  isEq (.int .i64 1),
  isSl ([] : Sl),
  isEq (.int .i64 1)]
theorem kF9_stable (B0 : Nat) : AllG (fun _ P => Stable P) 0 (kF9 B0) := by
  unfold kF9
  refine AllG.cons (k' := 1) rfl (isCore.stable _) ?_
  refine AllG.cons (k' := 2) rfl (isVal.stable _) ?_
  refine AllG.cons (k' := 3) rfl (isOf.stable _ _) ?_
  refine AllG.cons (k' := 4) rfl (isOf.stable _ _) ?_
  refine AllG.cons (k' := 5) rfl (isSl.stable _) ?_
  refine AllG.cons (k' := 6) rfl (isEq.stable _) ?_
  refine AllG.cons (k' := 7) rfl (isSl.stable _) ?_
  refine AllG.cons (k' := 8) rfl (isEq.stable _) ?_
  exact AllG.nil
def kF10 (_B0 : Nat) : List Fact := [
  isCore (K.Cr.mk 5 0 0 [(K.Cr.mk 4 0 0 [(K.Cr.mk 6 0 1 [(K.Cr.mk 2 bA 0 [])]), (K.Cr.mk 6 0 2 [(K.Cr.mk 2 bB 0 [])])])]),
  isVal (Vl.mk 6 0 []),
  isOf ([] : Sl) (1),
  isOf ([] : Sl) (1),
  isSl ([] : Sl),
  isEq (.int .i64 1),
  isSl ([] : Sl),
  isEq (.int .i64 1)]
theorem kF10_stable (B0 : Nat) : AllG (fun _ P => Stable P) 0 (kF10 B0) := by
  unfold kF10
  refine AllG.cons (k' := 1) rfl (isCore.stable _) ?_
  refine AllG.cons (k' := 2) rfl (isVal.stable _) ?_
  refine AllG.cons (k' := 3) rfl (isOf.stable _ _) ?_
  refine AllG.cons (k' := 4) rfl (isOf.stable _ _) ?_
  refine AllG.cons (k' := 5) rfl (isSl.stable _) ?_
  refine AllG.cons (k' := 6) rfl (isEq.stable _) ?_
  refine AllG.cons (k' := 7) rfl (isSl.stable _) ?_
  refine AllG.cons (k' := 8) rfl (isEq.stable _) ?_
  exact AllG.nil
def kF11 (_B0 : Nat) : List Fact := [
  isCore (K.Cr.mk 5 0 0 [(K.Cr.mk 4 0 0 [(K.Cr.mk 6 0 1 [(K.Cr.mk 2 bA 0 [])]), (K.Cr.mk 6 0 2 [(K.Cr.mk 2 bB 0 [])])])]),
  isVal (Vl.mk 6 0 []),
  isOf ([] : Sl) (1),
  isOf ([] : Sl) (1),
  isSl ([] : Sl),
  isEq (.int .i64 1),
  isSl ([] : Sl),
  isEq (.int .i64 1)]
theorem kF11_stable (B0 : Nat) : AllG (fun _ P => Stable P) 0 (kF11 B0) := by
  unfold kF11
  refine AllG.cons (k' := 1) rfl (isCore.stable _) ?_
  refine AllG.cons (k' := 2) rfl (isVal.stable _) ?_
  refine AllG.cons (k' := 3) rfl (isOf.stable _ _) ?_
  refine AllG.cons (k' := 4) rfl (isOf.stable _ _) ?_
  refine AllG.cons (k' := 5) rfl (isSl.stable _) ?_
  refine AllG.cons (k' := 6) rfl (isEq.stable _) ?_
  refine AllG.cons (k' := 7) rfl (isSl.stable _) ?_
  refine AllG.cons (k' := 8) rfl (isEq.stable _) ?_
  exact AllG.nil
set_option maxHeartbeats 64000000 in
theorem capsKnown_walk (w : World) (hP : PowAt w) : Calls Tryd.prog 3 #[] w fun e w' => e = .returned (.bool true) ∧ Below w.heap.size w w' := by
  go_enter Tryd.func3, Tryd.ntmps3
  go_wp2_with fail
  refine (awake12_any _ hP).mono ?_
  rintro e w1 ⟨rfl, hb'⟩
  have H1 := Lib.hid hb'
  have HP := Lib.hid hP
  clear hb' hP
  go_wp2_with fail
  refine (ch_eq (s := bA) (bytes_lit w1 [97] #[.int .u8 97] rfl (by decide) (by decide)) rfl).mono ?_
  rintro e w2 ⟨z2, rfl, hat2, hb'⟩
  obtain ⟨k2, s2, n2, a2, len2, cap2, rfl⟩ := K.at_lit hat2
  have H2 := Lib.hid (bt (K.alloc_below w1 _) hb')
  have A2 := Lib.hid hat2
  clear hb' hat2
  go_wp2_with fail
  refine (K.grp_walk 1 rfl A2.out).mono ?_
  rintro e w3 ⟨z3, rfl, hat3, hb'⟩
  obtain ⟨k3, s3, n3, a3, len3, cap3, rfl⟩ := K.at_lit hat3
  have H3 := Lib.hid hb'
  have A3 := Lib.hid hat3
  clear hb' hat3
  go_wp2_with fail
  refine (ch_eq (s := bB) (bytes_lit w3 [98] #[.int .u8 98] rfl (by decide) (by decide)) rfl).mono ?_
  rintro e w4 ⟨z4, rfl, hat4, hb'⟩
  obtain ⟨k4, s4, n4, a4, len4, cap4, rfl⟩ := K.at_lit hat4
  have H4 := Lib.hid (bt (K.alloc_below w3 _) hb')
  have A4 := Lib.hid hat4
  clear hb' hat4
  go_wp2_with fail
  refine (K.grp_walk 2 rfl A4.out).mono ?_
  rintro e w5 ⟨z5, rfl, hat5, hb'⟩
  obtain ⟨k5, s5, n5, a5, len5, cap5, rfl⟩ := K.at_lit hat5
  have H5 := Lib.hid hb'
  have A5 := Lib.hid hat5
  clear hb' hat5
  go_wp2_with fail
  refine (K.alt_walk (K.Cr.at_below (bt H4.out H5.out) (Nat.le_refl _) _ _ A3.out) (K.Cr.at_below (Below.refl _ _) (Nat.le_refl _) _ _ A5.out)).mono ?_
  rintro e w6 ⟨z6, rfl, hat6, hb'⟩
  obtain ⟨k6, s6, n6, a6, len6, cap6, rfl⟩ := K.at_lit hat6
  have H6 := Lib.hid hb'
  have A6 := Lib.hid hat6
  clear hb' hat6
  go_wp2_with fail
  refine (K.star_walk A6.out).mono ?_
  rintro e w7 ⟨z7, rfl, hat7, hb'⟩
  obtain ⟨k7, s7, n7, a7, len7, cap7, rfl⟩ := K.at_lit hat7
  have H7 := Lib.hid hb'
  have A7 := Lib.hid hat7
  clear hb' hat7
  obtain ⟨w8, hw8⟩ : ∃ w8, w8 = w7.alloc (.cells #[.int .i64 k7, .int .u64 (word s7 0), .int .u64 (word s7 1), .int .u64 (word s7 2), .int .u64 (word s7 3), .int .i64 n7, .slice a7 len7 cap7] 28) := ⟨_, rfl⟩
  have hal : Below w7.heap.size w7 w8 := by rw [hw8]; exact K.alloc_below _ _
  have hc : K.CoreIn w8 w7.heap.size #[.int .i64 k7, .int .u64 (word s7 0), .int .u64 (word s7 1), .int .u64 (word s7 2), .int .u64 (word s7 3), .int .i64 n7, .slice a7 len7 cap7] := by rw [hw8]; exact World.alloc_heap_new _ _
  have h7 : K.Core7 w8 w7.heap.size 0 [.int .i64 k7, .int .u64 (word s7 0), .int .u64 (word s7 1), .int .u64 (word s7 2), .int .u64 (word s7 3), .int .i64 n7, .slice a7 len7 cap7] := K.core7_in hc rfl
  obtain ⟨bc, hbc⟩ : ∃ bc, bc = w7.heap.size := ⟨_, rfl⟩
  rw [← hbc] at h7
  have hlt : bc < w8.heap.size := by rw [hbc]; exact lt_of_block hc
  have hat : K.Cr.at w8 (K.Cr.mk 5 0 0 [(K.Cr.mk 4 0 0 [(K.Cr.mk 6 0 1 [(K.Cr.mk 2 bA 0 [])]), (K.Cr.mk 6 0 2 [(K.Cr.mk 2 bB 0 [])])])]) [.int .i64 k7, .int .u64 (word s7 0), .int .u64 (word s7 1), .int .u64 (word s7 2), .int .u64 (word s7 3), .int .i64 n7, .slice a7 len7 cap7] := K.Cr.at_below hal (Nat.le_refl _) _ _ (K.Cr.at_below (Below.refl _ _) (Nat.le_refl _) _ _ A7.out)
  have ALLbc := Lib.hid (fun (w' : World) (h : Below w8.heap.size w8 w') => And.intro (core7_below h7 hlt h) (K.Cr.at_below h (Nat.le_refl _) _ _ hat))
  have H8 := Lib.hid hal
  go_upto_region 4 with fail
  rw [← hw8, ← hbc]
  clear hw8 hal hc h7 hlt hat hbc
  have BX1 := Lib.hid (fun (w' : World) (h : Below w8.heap.size w8 w') => ALLbc.out w' (bt (Below.refl _ _) h))
  go_upto_region 4 with fail
  go_cut [2, 3] from 27 to 39 (fun v2 v3 wx => isSl ([(5, 7), (-1, -1), (6, 7)] : Sl) v2 wx ∧ v3 = .int .i64 0 ∧ Below w8.heap.size w8 wx)
  case first =>
   rename_i J K' hR hMet
   refine wp_region_guards (factAt (kF4 w8.heap.size)) (W0 := w8) (by kernel_rfl) (by kernel_rfl) (by kernel_rfl) (Below.refl _ _) (fun i v w w' h hk => factAt_stable (kF4_stable _) i v w w' h hk) [] (by kernel_rfl) ?hgu ?hop ?hend
   case hgu =>
     intro j hj v w h
     simp at hj
   case hop =>
     refine AllG.get0 ?_
     refine AllG.cons (k' := 1) rfl ?_ ?_
     · intro a' w' hB hk hin KK hK
       refine wp_load_coreK _ rfl bc 0 _ (eval_tmp (by rw [hk 1 (by kernel_rfl)]; rfl)) (BX1.out _ hB).1 ?_
       exact hK _ _ hB (KeepsC.of_below (Below.refl _ _)) (fact_put (P := isCore (K.Cr.mk 5 0 0 [(K.Cr.mk 4 0 0 [(K.Cr.mk 6 0 1 [(K.Cr.mk 2 bA 0 [])]), (K.Cr.mk 6 0 2 [(K.Cr.mk 2 bB 0 [])])])])) rfl ⟨_, rfl, (BX1.out _ hB).2⟩)
     refine AllG.cons (k' := 2) rfl ?_ ?_
     · intro a' w' hB hk hin KK hK
       unfold Oper.wp execOp
       go_simp
       refine (byt_walk 97 (by decide) w').mono ?_
       rintro e wn ⟨zz, rfl, hat, hbn⟩
       exact hK _ _ (hB.trans (hbn.mono hB.size)) (KeepsC.of_below hbn) (fact_put (P := isVal (Vl.mk 2 97 [])) rfl ⟨zz, rfl, hat⟩)
     refine AllG.cons (k' := 3) rfl ?_ ?_
     · intro a' w' hB hk hin KK hK
       obtain ⟨v1, e1, q1⟩ := hin 1 _ 29 rfl rfl ⟨{ on := 1, ground := .data }, by simp, rfl, rfl⟩
       have q1 := fact_get (P := isVal (Vl.mk 2 97 [])) rfl q1
       obtain ⟨zs1, r1, hat1⟩ := q1
       subst r1
       unfold Oper.wp execOp
       go_simp
       refine (group_walk hat1).mono ?_
       rintro e wn ⟨zz, rfl, hat, hbn⟩
       exact hK _ _ (hB.trans (hbn.mono hB.size)) (KeepsC.of_below hbn) (fact_put (P := isVal (Vl.mk 7 0 [(Vl.mk 2 97 [])])) rfl ⟨zz, rfl, hat⟩)
     refine AllG.cons (k' := 4) rfl ?_ ?_
     · intro a' w' hB hk hin KK hK
       obtain ⟨v2, e2, q2⟩ := hin 2 _ 30 rfl rfl ⟨{ on := 2, ground := .data }, by simp, rfl, rfl⟩
       have q2 := fact_get (P := isVal (Vl.mk 7 0 [(Vl.mk 2 97 [])])) rfl q2
       obtain ⟨zs2, r2, hat2⟩ := q2
       subst r2
       unfold Oper.wp execOp
       go_simp
       refine (left_walk hat2).mono ?_
       rintro e wn ⟨zz, rfl, hat, hbn⟩
       exact hK _ _ (hB.trans (hbn.mono hB.size)) (KeepsC.of_below hbn) (fact_put (P := isVal (Vl.mk 4 0 [(Vl.mk 7 0 [(Vl.mk 2 97 [])])])) rfl ⟨zz, rfl, hat⟩)
     refine AllG.cons (k' := 5) rfl ?_ ?_
     · intro a' w' hB hk hin KK hK
       unfold Oper.wp execOp
       go_simp
       refine (byt_walk 98 (by decide) w').mono ?_
       rintro e wn ⟨zz, rfl, hat, hbn⟩
       exact hK _ _ (hB.trans (hbn.mono hB.size)) (KeepsC.of_below hbn) (fact_put (P := isVal (Vl.mk 2 98 [])) rfl ⟨zz, rfl, hat⟩)
     refine AllG.cons (k' := 6) rfl ?_ ?_
     · intro a' w' hB hk hin KK hK
       obtain ⟨v3, e3, q3⟩ := hin 4 _ 32 rfl rfl ⟨{ on := 4, ground := .data }, by simp, rfl, rfl⟩
       have q3 := fact_get (P := isVal (Vl.mk 2 98 [])) rfl q3
       obtain ⟨zs3, r3, hat3⟩ := q3
       subst r3
       unfold Oper.wp execOp
       go_simp
       refine (group_walk hat3).mono ?_
       rintro e wn ⟨zz, rfl, hat, hbn⟩
       exact hK _ _ (hB.trans (hbn.mono hB.size)) (KeepsC.of_below hbn) (fact_put (P := isVal (Vl.mk 7 0 [(Vl.mk 2 98 [])])) rfl ⟨zz, rfl, hat⟩)
     refine AllG.cons (k' := 7) rfl ?_ ?_
     · intro a' w' hB hk hin KK hK
       obtain ⟨v4, e4, q4⟩ := hin 5 _ 33 rfl rfl ⟨{ on := 5, ground := .data }, by simp, rfl, rfl⟩
       have q4 := fact_get (P := isVal (Vl.mk 7 0 [(Vl.mk 2 98 [])])) rfl q4
       obtain ⟨zs4, r4, hat4⟩ := q4
       subst r4
       unfold Oper.wp execOp
       go_simp
       refine (right_walk hat4).mono ?_
       rintro e wn ⟨zz, rfl, hat, hbn⟩
       exact hK _ _ (hB.trans (hbn.mono hB.size)) (KeepsC.of_below hbn) (fact_put (P := isVal (Vl.mk 5 0 [(Vl.mk 7 0 [(Vl.mk 2 98 [])])])) rfl ⟨zz, rfl, hat⟩)
     refine AllG.cons (k' := 8) rfl ?_ ?_
     · intro a' w' hB hk hin KK hK
       obtain ⟨v5, e5, q5⟩ := hin 3 _ 31 rfl rfl ⟨{ on := 3, ground := .data }, by simp, rfl, rfl⟩
       have q5 := fact_get (P := isVal (Vl.mk 4 0 [(Vl.mk 7 0 [(Vl.mk 2 97 [])])])) rfl q5
       obtain ⟨zs5, r5, hat5⟩ := q5
       subst r5
       have ha5 := at_lit hat5
       obtain ⟨k5, z5, a5, len5, cap5, rfl⟩ := ha5
       obtain ⟨v6, e6, q6⟩ := hin 6 _ 34 rfl rfl ⟨{ on := 6, ground := .data }, by simp, rfl, rfl⟩
       have q6 := fact_get (P := isVal (Vl.mk 5 0 [(Vl.mk 7 0 [(Vl.mk 2 98 [])])])) rfl q6
       obtain ⟨zs6, r6, hat6⟩ := q6
       subst r6
       have ha6 := at_lit hat6
       obtain ⟨k6, z6, a6, len6, cap6, rfl⟩ := ha6
       have hv := fun cs hc => vals_lit w' [((Vl.mk 4 0 [(Vl.mk 7 0 [(Vl.mk 2 97 [])])]), [.int .i64 k5, .int .u8 z5, .slice a5 len5 cap5]), ((Vl.mk 5 0 [(Vl.mk 7 0 [(Vl.mk 2 98 [])])]), [.int .i64 k6, .int .u8 z6, .slice a6 len6 cap6])] (by intro p hp; simp only [List.mem_cons, List.not_mem_nil, or_false] at hp; rcases hp with rfl | rfl <;> assumption) cs hc (by show 2 ≤ maxLen; decide)
       unfold Oper.wp execOp
       go_simp
       exact hK _ _ (hB.alloc hB.size _) (KeepsC.of_below ((Below.refl _ _).alloc (Nat.le_refl _) _)) (fact_put (P := isVals [(Vl.mk 4 0 [(Vl.mk 7 0 [(Vl.mk 2 97 [])])]), (Vl.mk 5 0 [(Vl.mk 7 0 [(Vl.mk 2 98 [])])])]) rfl (hv _ rfl))
     refine AllG.cons (k' := 9) rfl ?_ ?_
     · intro a' w' hB hk hin KK hK
       obtain ⟨v7, e7, q7⟩ := hin 7 _ 35 rfl rfl ⟨{ on := 7, ground := .data }, by simp, rfl, rfl⟩
       have q7 := fact_get (P := isVals [(Vl.mk 4 0 [(Vl.mk 7 0 [(Vl.mk 2 97 [])])]), (Vl.mk 5 0 [(Vl.mk 7 0 [(Vl.mk 2 98 [])])])]) rfl q7
       have hl7 := q7
       obtain ⟨a7, cap7, r7, _⟩ := q7
       subst r7
       unfold Oper.wp execOp
       go_simp
       refine (many_walk hl7).mono ?_
       rintro e wn ⟨zz, rfl, hat, hbn⟩
       exact hK _ _ (hB.trans (hbn.mono hB.size)) (KeepsC.of_below hbn) (fact_put (P := isVal (Vl.mk 6 0 [(Vl.mk 4 0 [(Vl.mk 7 0 [(Vl.mk 2 97 [])])]), (Vl.mk 5 0 [(Vl.mk 7 0 [(Vl.mk 2 98 [])])])])) rfl ⟨zz, rfl, hat⟩)
     refine AllG.cons (k' := 10) rfl ?_ ?_
     · intro a' w' hB hk hin KK hK
       obtain ⟨v8, e8, q8⟩ := hin 0 _ 28 rfl rfl ⟨{ on := 0, ground := .data }, by simp, rfl, rfl⟩
       have q8 := fact_get (P := isCore (K.Cr.mk 5 0 0 [(K.Cr.mk 4 0 0 [(K.Cr.mk 6 0 1 [(K.Cr.mk 2 bA 0 [])]), (K.Cr.mk 6 0 2 [(K.Cr.mk 2 bB 0 [])])])])) rfl q8
       obtain ⟨zs8, r8, hat8⟩ := q8
       subst r8
       obtain ⟨v9, e9, q9⟩ := hin 8 _ 36 rfl rfl ⟨{ on := 8, ground := .data }, by simp, rfl, rfl⟩
       have q9 := fact_get (P := isVal (Vl.mk 6 0 [(Vl.mk 4 0 [(Vl.mk 7 0 [(Vl.mk 2 97 [])])]), (Vl.mk 5 0 [(Vl.mk 7 0 [(Vl.mk 2 98 [])])])])) rfl q9
       obtain ⟨zs9, r9, hat9⟩ := q9
       subst r9
       unfold Oper.wp execOp
       go_simp
       refine (of_eq (l := ([(5, 7), (-1, -1), (6, 7)] : Sl)) (b := 0) hat8 hat9 (by decide +kernel)).mono ?_
       rintro e wn ⟨pa, ca, rfl, hsp, hbn⟩
       exact hK _ _ (hB.trans (hbn.mono hB.size)) (KeepsC.of_below hbn) (fact_put (P := isOf ([(5, 7), (-1, -1), (6, 7)] : Sl) (0)) rfl ⟨_, _, rfl, hsp⟩)
     refine AllG.cons (k' := 11) rfl ?_ ?_
     · intro a' w' hB hk hin KK hK
       obtain ⟨v10, e10, q10⟩ := hin 9 _ 37 rfl rfl ⟨{ on := 9, ground := .data }, by simp, rfl, rfl⟩
       have q10 := fact_get (P := isOf ([(5, 7), (-1, -1), (6, 7)] : Sl) (0)) rfl q10
       obtain ⟨pa10, ca10, r10, hs10⟩ := q10
       subst r10
       unfold Oper.wp execOp
       go_simp
       exact hK _ _ hB (KeepsC.of_below (Below.refl _ _)) (fact_put (P := isOf ([(5, 7), (-1, -1), (6, 7)] : Sl) (0)) rfl ⟨_, _, rfl, hs10⟩)
     refine AllG.cons (k' := 12) rfl ?_ ?_
     · intro a' w' hB hk hin KK hK
       obtain ⟨v11, e11, q11⟩ := hin 10 _ 27 rfl rfl ⟨{ on := 10, ground := .data }, by simp, rfl, rfl⟩
       have q11 := fact_get (P := isOf ([(5, 7), (-1, -1), (6, 7)] : Sl) (0)) rfl q11
       obtain ⟨pa11, ca11, r11, hs11⟩ := q11
       subst r11
       unfold Oper.wp execOp
       go_simp
       exact hK _ _ hB (KeepsC.of_below (Below.refl _ _)) (fact_put (P := isSl ([(5, 7), (-1, -1), (6, 7)] : Sl)) rfl ⟨_, _, rfl, hs11⟩)
     refine AllG.cons (k' := 13) rfl ?_ ?_
     · intro a' w' hB hk hin KK hK
       obtain ⟨v12, e12, q12⟩ := hin 10 _ 27 rfl rfl ⟨{ on := 10, ground := .data }, by simp, rfl, rfl⟩
       have q12 := fact_get (P := isOf ([(5, 7), (-1, -1), (6, 7)] : Sl) (0)) rfl q12
       obtain ⟨pa12, ca12, r12, hs12⟩ := q12
       subst r12
       unfold Oper.wp execOp
       go_simp
       exact hK _ _ hB (KeepsC.of_below (Below.refl _ _)) (fact_put (P := isEq (.int .i64 0)) rfl rfl)
     refine AllG.cons (k' := 14) rfl ?_ ?_
     · intro a' w' hB hk hin KK hK
       obtain ⟨v13, e13, q13⟩ := hin 11 _ 38 rfl rfl ⟨{ on := 11, ground := .data }, by simp, rfl, rfl⟩
       have q13 := fact_get (P := isSl ([(5, 7), (-1, -1), (6, 7)] : Sl)) rfl q13
       obtain ⟨pa13, ca13, r13, hs13⟩ := q13
       subst r13
       unfold Oper.wp execOp
       go_simp
       exact hK _ _ hB (KeepsC.of_below (Below.refl _ _)) (fact_put (P := isSl ([(5, 7), (-1, -1), (6, 7)] : Sl)) rfl ⟨_, _, rfl, hs13⟩)
     refine AllG.cons (k' := 15) rfl ?_ ?_
     · intro a' w' hB hk hin KK hK
       obtain ⟨v14, e14, q14⟩ := hin 12 _ 39 rfl rfl ⟨{ on := 12, ground := .data }, by simp, rfl, rfl⟩
       have q14 := fact_get (P := isEq (.int .i64 0)) rfl q14
       have q14' : v14 = .int .i64 0 := q14
       subst q14'
       unfold Oper.wp execOp
       go_simp
       exact hK _ _ hB (KeepsC.of_below (Below.refl _ _)) (fact_put (P := isEq (.int .i64 0)) rfl rfl)
     exact AllG.nil
   case hend =>
    intro a' w' hB hdef hsz hk hvals
    obtain ⟨v0', hv0, hvt0⟩ := hvals 13 _ 2 rfl rfl
    obtain ⟨v1', hv1, hvt1⟩ := hvals 14 _ 3 rfl rfl
    have hvt0' := fact_get (P := isSl ([(5, 7), (-1, -1), (6, 7)] : Sl)) rfl hvt0
    have hvt1' := fact_get (P := isEq (.int .i64 0)) rfl hvt1
    have hf0 : a'.tmps.getD 2 undef = v0' := by rw [Array.getD_eq_getD_getElem?, hv0]; rfl
    have hf1 : a'.tmps.getD 3 undef = v1' := by rw [Array.getD_eq_getD_getElem?, hv1]; rfl
    have heq := act_eq hdef hsz hk
    refine hMet a' w' (Met.intro (hR a' w' ?_))
    refine ⟨a'.tmps.getD 2 undef, a'.tmps.getD 3 undef, a'.tmps.getD 27 undef, a'.tmps.getD 28 undef, a'.tmps.getD 29 undef, a'.tmps.getD 30 undef, a'.tmps.getD 31 undef, a'.tmps.getD 32 undef, a'.tmps.getD 33 undef, a'.tmps.getD 34 undef, a'.tmps.getD 35 undef, a'.tmps.getD 36 undef, a'.tmps.getD 37 undef, a'.tmps.getD 38 undef, a'.tmps.getD 39 undef, ⟨by rw [hf0]; exact hvt0', by rw [hf1]; exact hvt1', hB⟩, heq.trans ?_⟩
    kernel_rfl
  case rest =>
  obtain ⟨⟨pa9, ca9, rfl, hsp⟩, rfl, hBc⟩ := hcut
  obtain ⟨w9, rfl⟩ : ∃ w9, w9 = wc := ⟨_, rfl⟩
  have H9 := Lib.hid hBc
  have S9 := Lib.hid hsp
  clear hBc hsp BX1
  go_wp2_with fail
  refine (ch_eq (s := bA) (bytes_lit w9 [97] #[.int .u8 97] rfl (by decide) (by decide)) rfl).mono ?_
  rintro e w10 ⟨z10, rfl, hat10, hb'⟩
  obtain ⟨k10, s10, n10, a10, len10, cap10, rfl⟩ := K.at_lit hat10
  have H10 := Lib.hid (bt (K.alloc_below w9 _) hb')
  have A10 := Lib.hid hat10
  clear hb' hat10
  go_wp2_with fail
  refine (K.grp_walk 2 rfl A10.out).mono ?_
  rintro e w11 ⟨z11, rfl, hat11, hb'⟩
  obtain ⟨k11, s11, n11, a11, len11, cap11, rfl⟩ := K.at_lit hat11
  have H11 := Lib.hid hb'
  have A11 := Lib.hid hat11
  clear hb' hat11
  go_wp2_with fail
  refine (ch_eq (s := bB) (bytes_lit w11 [98] #[.int .u8 98] rfl (by decide) (by decide)) rfl).mono ?_
  rintro e w12 ⟨z12, rfl, hat12, hb'⟩
  obtain ⟨k12, s12, n12, a12, len12, cap12, rfl⟩ := K.at_lit hat12
  have H12 := Lib.hid (bt (K.alloc_below w11 _) hb')
  have A12 := Lib.hid hat12
  clear hb' hat12
  go_wp2_with fail
  refine (K.alt_walk (K.Cr.at_below H12.out (Nat.le_refl _) _ _ A11.out) A12.out).mono ?_
  rintro e w13 ⟨z13, rfl, hat13, hb'⟩
  obtain ⟨k13, s13, n13, a13, len13, cap13, rfl⟩ := K.at_lit hat13
  have H13 := Lib.hid hb'
  have A13 := Lib.hid hat13
  clear hb' hat13
  go_wp2_with fail
  refine (K.grp_walk 1 rfl A13.out).mono ?_
  rintro e w14 ⟨z14, rfl, hat14, hb'⟩
  obtain ⟨k14, s14, n14, a14, len14, cap14, rfl⟩ := K.at_lit hat14
  have H14 := Lib.hid hb'
  have A14 := Lib.hid hat14
  clear hb' hat14
  obtain ⟨w15, hw15⟩ : ∃ w15, w15 = w14.alloc (.cells #[.int .i64 k14, .int .u64 (word s14 0), .int .u64 (word s14 1), .int .u64 (word s14 2), .int .u64 (word s14 3), .int .i64 n14, .slice a14 len14 cap14] 28) := ⟨_, rfl⟩
  have hal : Below w14.heap.size w14 w15 := by rw [hw15]; exact K.alloc_below _ _
  have hc : K.CoreIn w15 w14.heap.size #[.int .i64 k14, .int .u64 (word s14 0), .int .u64 (word s14 1), .int .u64 (word s14 2), .int .u64 (word s14 3), .int .i64 n14, .slice a14 len14 cap14] := by rw [hw15]; exact World.alloc_heap_new _ _
  have h7 : K.Core7 w15 w14.heap.size 0 [.int .i64 k14, .int .u64 (word s14 0), .int .u64 (word s14 1), .int .u64 (word s14 2), .int .u64 (word s14 3), .int .i64 n14, .slice a14 len14 cap14] := K.core7_in hc rfl
  obtain ⟨bx, hbx⟩ : ∃ bx, bx = w14.heap.size := ⟨_, rfl⟩
  rw [← hbx] at h7
  have hlt : bx < w15.heap.size := by rw [hbx]; exact lt_of_block hc
  have hat : K.Cr.at w15 (K.Cr.mk 6 0 1 [(K.Cr.mk 4 0 0 [(K.Cr.mk 6 0 2 [(K.Cr.mk 2 bA 0 [])]), (K.Cr.mk 2 bB 0 [])])]) [.int .i64 k14, .int .u64 (word s14 0), .int .u64 (word s14 1), .int .u64 (word s14 2), .int .u64 (word s14 3), .int .i64 n14, .slice a14 len14 cap14] := K.Cr.at_below hal (Nat.le_refl _) _ _ (K.Cr.at_below (Below.refl _ _) (Nat.le_refl _) _ _ A14.out)
  have ALLbx := Lib.hid (fun (w' : World) (h : Below w15.heap.size w15 w') => And.intro (core7_below h7 hlt h) (K.Cr.at_below h (Nat.le_refl _) _ _ hat))
  have H15 := Lib.hid hal
  go_upto_region 6 with fail
  rw [← hw15, ← hbx]
  clear hw15 hal hc h7 hlt hat hbx
  have BX4 := Lib.hid (fun (w' : World) (h : Below w15.heap.size w15 w') => ALLbx.out w' (bt (Below.refl _ _) h))
  go_upto_region 6 with fail
  go_cut [5, 6] from 47 to 62 (fun v5 v6 wx => isSl ([(0, 2), (1, 2), (-1, -1), (-1, -1)] : Sl) v5 wx ∧ v6 = .int .i64 0 ∧ Below w15.heap.size w15 wx)
  case first =>
   rename_i J K' hR hMet
   refine wp_region_guards (factAt (kF6 w15.heap.size)) (W0 := w15) (by kernel_rfl) (by kernel_rfl) (by kernel_rfl) (Below.refl _ _) (fun i v w w' h hk => factAt_stable (kF6_stable _) i v w w' h hk) [] (by kernel_rfl) ?hgu ?hop ?hend
   case hgu =>
     intro j hj v w h
     simp at hj
   case hop =>
     refine AllG.get0 ?_
     refine AllG.cons (k' := 1) rfl ?_ ?_
     · intro a' w' hB hk hin KK hK
       refine wp_load_coreK _ rfl bx 0 _ (eval_tmp (by rw [hk 4 (by kernel_rfl)]; rfl)) (BX4.out _ hB).1 ?_
       exact hK _ _ hB (KeepsC.of_below (Below.refl _ _)) (fact_put (P := isCore (K.Cr.mk 6 0 1 [(K.Cr.mk 4 0 0 [(K.Cr.mk 6 0 2 [(K.Cr.mk 2 bA 0 [])]), (K.Cr.mk 2 bB 0 [])])])) rfl ⟨_, rfl, (BX4.out _ hB).2⟩)
     refine AllG.cons (k' := 2) rfl ?_ ?_
     · intro a' w' hB hk hin KK hK
       refine wp_load_coreK _ rfl bx 0 _ (eval_tmp (by rw [hk 4 (by kernel_rfl)]; rfl)) (BX4.out _ hB).1 ?_
       exact hK _ _ hB (KeepsC.of_below (Below.refl _ _)) (fact_put (P := isCore (K.Cr.mk 6 0 1 [(K.Cr.mk 4 0 0 [(K.Cr.mk 6 0 2 [(K.Cr.mk 2 bA 0 [])]), (K.Cr.mk 2 bB 0 [])])])) rfl ⟨_, rfl, (BX4.out _ hB).2⟩)
     refine AllG.cons (k' := 3) rfl ?_ ?_
     · intro a' w' hB hk hin KK hK
       obtain ⟨v1, e1, q1⟩ := hin 1 _ 49 rfl rfl ⟨{ on := 1, ground := .data }, by simp, rfl, rfl⟩
       have q1 := fact_get (P := isCore (K.Cr.mk 6 0 1 [(K.Cr.mk 4 0 0 [(K.Cr.mk 6 0 2 [(K.Cr.mk 2 bA 0 [])]), (K.Cr.mk 2 bB 0 [])])])) rfl q1
       obtain ⟨zs1, r1, hat1⟩ := q1
       subst r1
       unfold Oper.wp execOp
       go_simp
       refine (K.anew_walk hat1).mono ?_
       rintro e wn ⟨zz, rfl, hat, hbn⟩
       exact hK _ _ (hB.trans (hbn.mono hB.size)) (KeepsC.of_below hbn) (fact_put (P := isCore (K.Cr.mk 7 0 0 [(K.Cr.mk 6 0 1 [(K.Cr.mk 4 0 0 [(K.Cr.mk 6 0 2 [(K.Cr.mk 2 bA 0 [])]), (K.Cr.mk 2 bB 0 [])])])])) rfl ⟨zz, rfl, hat⟩)
     refine AllG.cons (k' := 4) rfl ?_ ?_
     · intro a' w' hB hk hin KK hK
       obtain ⟨v2, e2, q2⟩ := hin 0 _ 48 rfl rfl ⟨{ on := 0, ground := .data }, by simp, rfl, rfl⟩
       have q2 := fact_get (P := isCore (K.Cr.mk 6 0 1 [(K.Cr.mk 4 0 0 [(K.Cr.mk 6 0 2 [(K.Cr.mk 2 bA 0 [])]), (K.Cr.mk 2 bB 0 [])])])) rfl q2
       obtain ⟨zs2, r2, hat2⟩ := q2
       subst r2
       obtain ⟨v3, e3, q3⟩ := hin 2 _ 50 rfl rfl ⟨{ on := 2, ground := .data }, by simp, rfl, rfl⟩
       have q3 := fact_get (P := isCore (K.Cr.mk 7 0 0 [(K.Cr.mk 6 0 1 [(K.Cr.mk 4 0 0 [(K.Cr.mk 6 0 2 [(K.Cr.mk 2 bA 0 [])]), (K.Cr.mk 2 bB 0 [])])])])) rfl q3
       obtain ⟨zs3, r3, hat3⟩ := q3
       subst r3
       unfold Oper.wp execOp
       go_simp
       refine (K.seq_walk hat2 hat3).mono ?_
       rintro e wn ⟨zz, rfl, hat, hbn⟩
       exact hK _ _ (hB.trans (hbn.mono hB.size)) (KeepsC.of_below hbn) (fact_put (P := isCore (K.Cr.mk 3 0 0 [(K.Cr.mk 6 0 1 [(K.Cr.mk 4 0 0 [(K.Cr.mk 6 0 2 [(K.Cr.mk 2 bA 0 [])]), (K.Cr.mk 2 bB 0 [])])]), (K.Cr.mk 7 0 0 [(K.Cr.mk 6 0 1 [(K.Cr.mk 4 0 0 [(K.Cr.mk 6 0 2 [(K.Cr.mk 2 bA 0 [])]), (K.Cr.mk 2 bB 0 [])])])])])) rfl ⟨zz, rfl, hat⟩)
     refine AllG.cons (k' := 5) rfl ?_ ?_
     · intro a' w' hB hk hin KK hK
       unfold Oper.wp execOp
       go_simp
       refine (byt_walk 97 (by decide) w').mono ?_
       rintro e wn ⟨zz, rfl, hat, hbn⟩
       exact hK _ _ (hB.trans (hbn.mono hB.size)) (KeepsC.of_below hbn) (fact_put (P := isVal (Vl.mk 2 97 [])) rfl ⟨zz, rfl, hat⟩)
     refine AllG.cons (k' := 6) rfl ?_ ?_
     · intro a' w' hB hk hin KK hK
       obtain ⟨v4, e4, q4⟩ := hin 4 _ 52 rfl rfl ⟨{ on := 4, ground := .data }, by simp, rfl, rfl⟩
       have q4 := fact_get (P := isVal (Vl.mk 2 97 [])) rfl q4
       obtain ⟨zs4, r4, hat4⟩ := q4
       subst r4
       unfold Oper.wp execOp
       go_simp
       refine (group_walk hat4).mono ?_
       rintro e wn ⟨zz, rfl, hat, hbn⟩
       exact hK _ _ (hB.trans (hbn.mono hB.size)) (KeepsC.of_below hbn) (fact_put (P := isVal (Vl.mk 7 0 [(Vl.mk 2 97 [])])) rfl ⟨zz, rfl, hat⟩)
     refine AllG.cons (k' := 7) rfl ?_ ?_
     · intro a' w' hB hk hin KK hK
       obtain ⟨v5, e5, q5⟩ := hin 5 _ 53 rfl rfl ⟨{ on := 5, ground := .data }, by simp, rfl, rfl⟩
       have q5 := fact_get (P := isVal (Vl.mk 7 0 [(Vl.mk 2 97 [])])) rfl q5
       obtain ⟨zs5, r5, hat5⟩ := q5
       subst r5
       unfold Oper.wp execOp
       go_simp
       refine (left_walk hat5).mono ?_
       rintro e wn ⟨zz, rfl, hat, hbn⟩
       exact hK _ _ (hB.trans (hbn.mono hB.size)) (KeepsC.of_below hbn) (fact_put (P := isVal (Vl.mk 4 0 [(Vl.mk 7 0 [(Vl.mk 2 97 [])])])) rfl ⟨zz, rfl, hat⟩)
     refine AllG.cons (k' := 8) rfl ?_ ?_
     · intro a' w' hB hk hin KK hK
       obtain ⟨v6, e6, q6⟩ := hin 6 _ 54 rfl rfl ⟨{ on := 6, ground := .data }, by simp, rfl, rfl⟩
       have q6 := fact_get (P := isVal (Vl.mk 4 0 [(Vl.mk 7 0 [(Vl.mk 2 97 [])])])) rfl q6
       obtain ⟨zs6, r6, hat6⟩ := q6
       subst r6
       unfold Oper.wp execOp
       go_simp
       refine (group_walk hat6).mono ?_
       rintro e wn ⟨zz, rfl, hat, hbn⟩
       exact hK _ _ (hB.trans (hbn.mono hB.size)) (KeepsC.of_below hbn) (fact_put (P := isVal (Vl.mk 7 0 [(Vl.mk 4 0 [(Vl.mk 7 0 [(Vl.mk 2 97 [])])])])) rfl ⟨zz, rfl, hat⟩)
     refine AllG.cons (k' := 9) rfl ?_ ?_
     · intro a' w' hB hk hin KK hK
       unfold Oper.wp execOp
       go_simp
       refine (byt_walk 98 (by decide) w').mono ?_
       rintro e wn ⟨zz, rfl, hat, hbn⟩
       exact hK _ _ (hB.trans (hbn.mono hB.size)) (KeepsC.of_below hbn) (fact_put (P := isVal (Vl.mk 2 98 [])) rfl ⟨zz, rfl, hat⟩)
     refine AllG.cons (k' := 10) rfl ?_ ?_
     · intro a' w' hB hk hin KK hK
       obtain ⟨v7, e7, q7⟩ := hin 8 _ 56 rfl rfl ⟨{ on := 8, ground := .data }, by simp, rfl, rfl⟩
       have q7 := fact_get (P := isVal (Vl.mk 2 98 [])) rfl q7
       obtain ⟨zs7, r7, hat7⟩ := q7
       subst r7
       unfold Oper.wp execOp
       go_simp
       refine (right_walk hat7).mono ?_
       rintro e wn ⟨zz, rfl, hat, hbn⟩
       exact hK _ _ (hB.trans (hbn.mono hB.size)) (KeepsC.of_below hbn) (fact_put (P := isVal (Vl.mk 5 0 [(Vl.mk 2 98 [])])) rfl ⟨zz, rfl, hat⟩)
     refine AllG.cons (k' := 11) rfl ?_ ?_
     · intro a' w' hB hk hin KK hK
       obtain ⟨v8, e8, q8⟩ := hin 9 _ 57 rfl rfl ⟨{ on := 9, ground := .data }, by simp, rfl, rfl⟩
       have q8 := fact_get (P := isVal (Vl.mk 5 0 [(Vl.mk 2 98 [])])) rfl q8
       obtain ⟨zs8, r8, hat8⟩ := q8
       subst r8
       unfold Oper.wp execOp
       go_simp
       refine (group_walk hat8).mono ?_
       rintro e wn ⟨zz, rfl, hat, hbn⟩
       exact hK _ _ (hB.trans (hbn.mono hB.size)) (KeepsC.of_below hbn) (fact_put (P := isVal (Vl.mk 7 0 [(Vl.mk 5 0 [(Vl.mk 2 98 [])])])) rfl ⟨zz, rfl, hat⟩)
     refine AllG.cons (k' := 12) rfl ?_ ?_
     · intro a' w' hB hk hin KK hK
       obtain ⟨v9, e9, q9⟩ := hin 7 _ 55 rfl rfl ⟨{ on := 7, ground := .data }, by simp, rfl, rfl⟩
       have q9 := fact_get (P := isVal (Vl.mk 7 0 [(Vl.mk 4 0 [(Vl.mk 7 0 [(Vl.mk 2 97 [])])])])) rfl q9
       obtain ⟨zs9, r9, hat9⟩ := q9
       subst r9
       obtain ⟨v10, e10, q10⟩ := hin 10 _ 58 rfl rfl ⟨{ on := 10, ground := .data }, by simp, rfl, rfl⟩
       have q10 := fact_get (P := isVal (Vl.mk 7 0 [(Vl.mk 5 0 [(Vl.mk 2 98 [])])])) rfl q10
       obtain ⟨zs10, r10, hat10⟩ := q10
       subst r10
       unfold Oper.wp execOp
       go_simp
       refine (row_walk hat9 hat10).mono ?_
       rintro e wn ⟨zz, rfl, hat, hbn⟩
       exact hK _ _ (hB.trans (hbn.mono hB.size)) (KeepsC.of_below hbn) (fact_put (P := isVal (Vl.mk 3 0 [(Vl.mk 7 0 [(Vl.mk 4 0 [(Vl.mk 7 0 [(Vl.mk 2 97 [])])])]), (Vl.mk 7 0 [(Vl.mk 5 0 [(Vl.mk 2 98 [])])])])) rfl ⟨zz, rfl, hat⟩)
     refine AllG.cons (k' := 13) rfl ?_ ?_
     · intro a' w' hB hk hin KK hK
       obtain ⟨v11, e11, q11⟩ := hin 3 _ 51 rfl rfl ⟨{ on := 3, ground := .data }, by simp, rfl, rfl⟩
       have q11 := fact_get (P := isCore (K.Cr.mk 3 0 0 [(K.Cr.mk 6 0 1 [(K.Cr.mk 4 0 0 [(K.Cr.mk 6 0 2 [(K.Cr.mk 2 bA 0 [])]), (K.Cr.mk 2 bB 0 [])])]), (K.Cr.mk 7 0 0 [(K.Cr.mk 6 0 1 [(K.Cr.mk 4 0 0 [(K.Cr.mk 6 0 2 [(K.Cr.mk 2 bA 0 [])]), (K.Cr.mk 2 bB 0 [])])])])])) rfl q11
       obtain ⟨zs11, r11, hat11⟩ := q11
       subst r11
       obtain ⟨v12, e12, q12⟩ := hin 11 _ 59 rfl rfl ⟨{ on := 11, ground := .data }, by simp, rfl, rfl⟩
       have q12 := fact_get (P := isVal (Vl.mk 3 0 [(Vl.mk 7 0 [(Vl.mk 4 0 [(Vl.mk 7 0 [(Vl.mk 2 97 [])])])]), (Vl.mk 7 0 [(Vl.mk 5 0 [(Vl.mk 2 98 [])])])])) rfl q12
       obtain ⟨zs12, r12, hat12⟩ := q12
       subst r12
       unfold Oper.wp execOp
       go_simp
       refine (of_eq (l := ([(0, 2), (1, 2), (-1, -1), (-1, -1)] : Sl)) (b := 0) hat11 hat12 (by decide +kernel)).mono ?_
       rintro e wn ⟨pa, ca, rfl, hsp, hbn⟩
       exact hK _ _ (hB.trans (hbn.mono hB.size)) (KeepsC.of_below hbn) (fact_put (P := isOf ([(0, 2), (1, 2), (-1, -1), (-1, -1)] : Sl) (0)) rfl ⟨_, _, rfl, hsp⟩)
     refine AllG.cons (k' := 14) rfl ?_ ?_
     · intro a' w' hB hk hin KK hK
       obtain ⟨v13, e13, q13⟩ := hin 12 _ 60 rfl rfl ⟨{ on := 12, ground := .data }, by simp, rfl, rfl⟩
       have q13 := fact_get (P := isOf ([(0, 2), (1, 2), (-1, -1), (-1, -1)] : Sl) (0)) rfl q13
       obtain ⟨pa13, ca13, r13, hs13⟩ := q13
       subst r13
       unfold Oper.wp execOp
       go_simp
       exact hK _ _ hB (KeepsC.of_below (Below.refl _ _)) (fact_put (P := isOf ([(0, 2), (1, 2), (-1, -1), (-1, -1)] : Sl) (0)) rfl ⟨_, _, rfl, hs13⟩)
     refine AllG.cons (k' := 15) rfl ?_ ?_
     · intro a' w' hB hk hin KK hK
       obtain ⟨v14, e14, q14⟩ := hin 13 _ 47 rfl rfl ⟨{ on := 13, ground := .data }, by simp, rfl, rfl⟩
       have q14 := fact_get (P := isOf ([(0, 2), (1, 2), (-1, -1), (-1, -1)] : Sl) (0)) rfl q14
       obtain ⟨pa14, ca14, r14, hs14⟩ := q14
       subst r14
       unfold Oper.wp execOp
       go_simp
       exact hK _ _ hB (KeepsC.of_below (Below.refl _ _)) (fact_put (P := isSl ([(0, 2), (1, 2), (-1, -1), (-1, -1)] : Sl)) rfl ⟨_, _, rfl, hs14⟩)
     refine AllG.cons (k' := 16) rfl ?_ ?_
     · intro a' w' hB hk hin KK hK
       obtain ⟨v15, e15, q15⟩ := hin 13 _ 47 rfl rfl ⟨{ on := 13, ground := .data }, by simp, rfl, rfl⟩
       have q15 := fact_get (P := isOf ([(0, 2), (1, 2), (-1, -1), (-1, -1)] : Sl) (0)) rfl q15
       obtain ⟨pa15, ca15, r15, hs15⟩ := q15
       subst r15
       unfold Oper.wp execOp
       go_simp
       exact hK _ _ hB (KeepsC.of_below (Below.refl _ _)) (fact_put (P := isEq (.int .i64 0)) rfl rfl)
     refine AllG.cons (k' := 17) rfl ?_ ?_
     · intro a' w' hB hk hin KK hK
       obtain ⟨v16, e16, q16⟩ := hin 14 _ 61 rfl rfl ⟨{ on := 14, ground := .data }, by simp, rfl, rfl⟩
       have q16 := fact_get (P := isSl ([(0, 2), (1, 2), (-1, -1), (-1, -1)] : Sl)) rfl q16
       obtain ⟨pa16, ca16, r16, hs16⟩ := q16
       subst r16
       unfold Oper.wp execOp
       go_simp
       exact hK _ _ hB (KeepsC.of_below (Below.refl _ _)) (fact_put (P := isSl ([(0, 2), (1, 2), (-1, -1), (-1, -1)] : Sl)) rfl ⟨_, _, rfl, hs16⟩)
     refine AllG.cons (k' := 18) rfl ?_ ?_
     · intro a' w' hB hk hin KK hK
       obtain ⟨v17, e17, q17⟩ := hin 15 _ 62 rfl rfl ⟨{ on := 15, ground := .data }, by simp, rfl, rfl⟩
       have q17 := fact_get (P := isEq (.int .i64 0)) rfl q17
       have q17' : v17 = .int .i64 0 := q17
       subst q17'
       unfold Oper.wp execOp
       go_simp
       exact hK _ _ hB (KeepsC.of_below (Below.refl _ _)) (fact_put (P := isEq (.int .i64 0)) rfl rfl)
     exact AllG.nil
   case hend =>
    intro a' w' hB hdef hsz hk hvals
    obtain ⟨v0', hv0, hvt0⟩ := hvals 16 _ 5 rfl rfl
    obtain ⟨v1', hv1, hvt1⟩ := hvals 17 _ 6 rfl rfl
    have hvt0' := fact_get (P := isSl ([(0, 2), (1, 2), (-1, -1), (-1, -1)] : Sl)) rfl hvt0
    have hvt1' := fact_get (P := isEq (.int .i64 0)) rfl hvt1
    have hf0 : a'.tmps.getD 5 undef = v0' := by rw [Array.getD_eq_getD_getElem?, hv0]; rfl
    have hf1 : a'.tmps.getD 6 undef = v1' := by rw [Array.getD_eq_getD_getElem?, hv1]; rfl
    have heq := act_eq hdef hsz hk
    refine hMet a' w' (Met.intro (hR a' w' ?_))
    refine ⟨a'.tmps.getD 5 undef, a'.tmps.getD 6 undef, a'.tmps.getD 47 undef, a'.tmps.getD 48 undef, a'.tmps.getD 49 undef, a'.tmps.getD 50 undef, a'.tmps.getD 51 undef, a'.tmps.getD 52 undef, a'.tmps.getD 53 undef, a'.tmps.getD 54 undef, a'.tmps.getD 55 undef, a'.tmps.getD 56 undef, a'.tmps.getD 57 undef, a'.tmps.getD 58 undef, a'.tmps.getD 59 undef, a'.tmps.getD 60 undef, a'.tmps.getD 61 undef, a'.tmps.getD 62 undef, ⟨by rw [hf0]; exact hvt0', by rw [hf1]; exact hvt1', hB⟩, heq.trans ?_⟩
    kernel_rfl
  case rest =>
  obtain ⟨⟨pa16, ca16, rfl, hsp⟩, rfl, hBc⟩ := hcut
  obtain ⟨w16, rfl⟩ : ∃ w16, w16 = wc := ⟨_, rfl⟩
  have H16 := Lib.hid hBc
  have S16 := Lib.hid hsp
  clear hBc hsp BX4
  have BX1 := Lib.hid (fun (w' : World) (h : Below w16.heap.size w16 w') => ALLbc.out w' (bt (bt H9.out (bt H10.out (bt H11.out (bt H12.out (bt H13.out (bt H14.out (bt H15.out H16.out))))))) h))
  go_upto_region 7 with fail
  go_cut [7, 8] from 63 to 68 (fun v7 v8 wx => isSl ([(3, 3)] : Sl) v7 wx ∧ v8 = .int .i64 0 ∧ Below w16.heap.size w16 wx)
  case first =>
   rename_i J K' hR hMet
   refine wp_region_guards (factAt (kF7 w16.heap.size)) (W0 := w16) (by kernel_rfl) (by kernel_rfl) (by kernel_rfl) (Below.refl _ _) (fun i v w w' h hk => factAt_stable (kF7_stable _) i v w w' h hk) [] (by kernel_rfl) ?hgu ?hop ?hend
   case hgu =>
     intro j hj v w h
     simp at hj
   case hop =>
     refine AllG.get0 ?_
     refine AllG.cons (k' := 1) rfl ?_ ?_
     · intro a' w' hB hk hin KK hK
       refine wp_load_coreK _ rfl bc 0 _ (eval_tmp (by rw [hk 1 (by kernel_rfl)]; rfl)) (BX1.out _ hB).1 ?_
       exact hK _ _ hB (KeepsC.of_below (Below.refl _ _)) (fact_put (P := isCore (K.Cr.mk 5 0 0 [(K.Cr.mk 4 0 0 [(K.Cr.mk 6 0 1 [(K.Cr.mk 2 bA 0 [])]), (K.Cr.mk 6 0 2 [(K.Cr.mk 2 bB 0 [])])])])) rfl ⟨_, rfl, (BX1.out _ hB).2⟩)
     refine AllG.cons (k' := 2) rfl ?_ ?_
     · intro a' w' hB hk hin KK hK
       unfold Oper.wp execOp
       go_simp
       refine (many_walk (l := []) ⟨none, 0, rfl, by decide, .inl rfl⟩).mono ?_
       rintro e wn ⟨zz, rfl, hat, hbn⟩
       exact hK _ _ (hB.trans (hbn.mono hB.size)) (KeepsC.of_below hbn) (fact_put (P := isVal (Vl.mk 6 0 [])) rfl ⟨zz, rfl, hat⟩)
     refine AllG.cons (k' := 3) rfl ?_ ?_
     · intro a' w' hB hk hin KK hK
       obtain ⟨v1, e1, q1⟩ := hin 0 _ 64 rfl rfl ⟨{ on := 0, ground := .data }, by simp, rfl, rfl⟩
       have q1 := fact_get (P := isCore (K.Cr.mk 5 0 0 [(K.Cr.mk 4 0 0 [(K.Cr.mk 6 0 1 [(K.Cr.mk 2 bA 0 [])]), (K.Cr.mk 6 0 2 [(K.Cr.mk 2 bB 0 [])])])])) rfl q1
       obtain ⟨zs1, r1, hat1⟩ := q1
       subst r1
       obtain ⟨v2, e2, q2⟩ := hin 1 _ 65 rfl rfl ⟨{ on := 1, ground := .data }, by simp, rfl, rfl⟩
       have q2 := fact_get (P := isVal (Vl.mk 6 0 [])) rfl q2
       obtain ⟨zs2, r2, hat2⟩ := q2
       subst r2
       unfold Oper.wp execOp
       go_simp
       refine (of_eq (l := ([(3, 3)] : Sl)) (b := 0) hat1 hat2 (by decide +kernel)).mono ?_
       rintro e wn ⟨pa, ca, rfl, hsp, hbn⟩
       exact hK _ _ (hB.trans (hbn.mono hB.size)) (KeepsC.of_below hbn) (fact_put (P := isOf ([(3, 3)] : Sl) (0)) rfl ⟨_, _, rfl, hsp⟩)
     refine AllG.cons (k' := 4) rfl ?_ ?_
     · intro a' w' hB hk hin KK hK
       obtain ⟨v3, e3, q3⟩ := hin 2 _ 66 rfl rfl ⟨{ on := 2, ground := .data }, by simp, rfl, rfl⟩
       have q3 := fact_get (P := isOf ([(3, 3)] : Sl) (0)) rfl q3
       obtain ⟨pa3, ca3, r3, hs3⟩ := q3
       subst r3
       unfold Oper.wp execOp
       go_simp
       exact hK _ _ hB (KeepsC.of_below (Below.refl _ _)) (fact_put (P := isOf ([(3, 3)] : Sl) (0)) rfl ⟨_, _, rfl, hs3⟩)
     refine AllG.cons (k' := 5) rfl ?_ ?_
     · intro a' w' hB hk hin KK hK
       obtain ⟨v4, e4, q4⟩ := hin 3 _ 63 rfl rfl ⟨{ on := 3, ground := .data }, by simp, rfl, rfl⟩
       have q4 := fact_get (P := isOf ([(3, 3)] : Sl) (0)) rfl q4
       obtain ⟨pa4, ca4, r4, hs4⟩ := q4
       subst r4
       unfold Oper.wp execOp
       go_simp
       exact hK _ _ hB (KeepsC.of_below (Below.refl _ _)) (fact_put (P := isSl ([(3, 3)] : Sl)) rfl ⟨_, _, rfl, hs4⟩)
     refine AllG.cons (k' := 6) rfl ?_ ?_
     · intro a' w' hB hk hin KK hK
       obtain ⟨v5, e5, q5⟩ := hin 3 _ 63 rfl rfl ⟨{ on := 3, ground := .data }, by simp, rfl, rfl⟩
       have q5 := fact_get (P := isOf ([(3, 3)] : Sl) (0)) rfl q5
       obtain ⟨pa5, ca5, r5, hs5⟩ := q5
       subst r5
       unfold Oper.wp execOp
       go_simp
       exact hK _ _ hB (KeepsC.of_below (Below.refl _ _)) (fact_put (P := isEq (.int .i64 0)) rfl rfl)
     refine AllG.cons (k' := 7) rfl ?_ ?_
     · intro a' w' hB hk hin KK hK
       obtain ⟨v6, e6, q6⟩ := hin 4 _ 67 rfl rfl ⟨{ on := 4, ground := .data }, by simp, rfl, rfl⟩
       have q6 := fact_get (P := isSl ([(3, 3)] : Sl)) rfl q6
       obtain ⟨pa6, ca6, r6, hs6⟩ := q6
       subst r6
       unfold Oper.wp execOp
       go_simp
       exact hK _ _ hB (KeepsC.of_below (Below.refl _ _)) (fact_put (P := isSl ([(3, 3)] : Sl)) rfl ⟨_, _, rfl, hs6⟩)
     refine AllG.cons (k' := 8) rfl ?_ ?_
     · intro a' w' hB hk hin KK hK
       obtain ⟨v7, e7, q7⟩ := hin 5 _ 68 rfl rfl ⟨{ on := 5, ground := .data }, by simp, rfl, rfl⟩
       have q7 := fact_get (P := isEq (.int .i64 0)) rfl q7
       have q7' : v7 = .int .i64 0 := q7
       subst q7'
       unfold Oper.wp execOp
       go_simp
       exact hK _ _ hB (KeepsC.of_below (Below.refl _ _)) (fact_put (P := isEq (.int .i64 0)) rfl rfl)
     exact AllG.nil
   case hend =>
    intro a' w' hB hdef hsz hk hvals
    obtain ⟨v0', hv0, hvt0⟩ := hvals 6 _ 7 rfl rfl
    obtain ⟨v1', hv1, hvt1⟩ := hvals 7 _ 8 rfl rfl
    have hvt0' := fact_get (P := isSl ([(3, 3)] : Sl)) rfl hvt0
    have hvt1' := fact_get (P := isEq (.int .i64 0)) rfl hvt1
    have hf0 : a'.tmps.getD 7 undef = v0' := by rw [Array.getD_eq_getD_getElem?, hv0]; rfl
    have hf1 : a'.tmps.getD 8 undef = v1' := by rw [Array.getD_eq_getD_getElem?, hv1]; rfl
    have heq := act_eq hdef hsz hk
    refine hMet a' w' (Met.intro (hR a' w' ?_))
    refine ⟨a'.tmps.getD 7 undef, a'.tmps.getD 8 undef, a'.tmps.getD 63 undef, a'.tmps.getD 64 undef, a'.tmps.getD 65 undef, a'.tmps.getD 66 undef, a'.tmps.getD 67 undef, a'.tmps.getD 68 undef, ⟨by rw [hf0]; exact hvt0', by rw [hf1]; exact hvt1', hB⟩, heq.trans ?_⟩
    kernel_rfl
  case rest =>
  obtain ⟨⟨pa17, ca17, rfl, hsp⟩, rfl, hBc⟩ := hcut
  obtain ⟨w17, rfl⟩ : ∃ w17, w17 = wc := ⟨_, rfl⟩
  have H17 := Lib.hid hBc
  have S17 := Lib.hid hsp
  clear hBc hsp BX1
  go_wp2_with fail
  refine (ch_eq (s := bA) (bytes_lit w17 [97] #[.int .u8 97] rfl (by decide) (by decide)) rfl).mono ?_
  rintro e w18 ⟨z18, rfl, hat18, hb'⟩
  obtain ⟨k18, s18, n18, a18, len18, cap18, rfl⟩ := K.at_lit hat18
  have H18 := Lib.hid (bt (K.alloc_below w17 _) hb')
  have A18 := Lib.hid hat18
  clear hb' hat18
  go_wp2_with fail
  refine (K.grp_walk 1 rfl A18.out).mono ?_
  rintro e w19 ⟨z19, rfl, hat19, hb'⟩
  obtain ⟨k19, s19, n19, a19, len19, cap19, rfl⟩ := K.at_lit hat19
  have H19 := Lib.hid hb'
  have A19 := Lib.hid hat19
  clear hb' hat19
  go_wp2_with fail
  refine (ch_eq (s := bB) (bytes_lit w19 [98] #[.int .u8 98] rfl (by decide) (by decide)) rfl).mono ?_
  rintro e w20 ⟨z20, rfl, hat20, hb'⟩
  obtain ⟨k20, s20, n20, a20, len20, cap20, rfl⟩ := K.at_lit hat20
  have H20 := Lib.hid (bt (K.alloc_below w19 _) hb')
  have A20 := Lib.hid hat20
  clear hb' hat20
  go_wp2_with fail
  refine (K.grp_walk 1 rfl A20.out).mono ?_
  rintro e w21 ⟨z21, rfl, hat21, hb'⟩
  obtain ⟨k21, s21, n21, a21, len21, cap21, rfl⟩ := K.at_lit hat21
  have H21 := Lib.hid hb'
  have A21 := Lib.hid hat21
  clear hb' hat21
  go_wp2_with fail
  refine (K.anew_walk A21.out).mono ?_
  rintro e w22 ⟨z22, rfl, hat22, hb'⟩
  obtain ⟨k22, s22, n22, a22, len22, cap22, rfl⟩ := K.at_lit hat22
  have H22 := Lib.hid hb'
  have A22 := Lib.hid hat22
  clear hb' hat22
  go_wp2_with fail
  refine (K.eps_walk w22).mono ?_
  rintro e w23 ⟨z23, rfl, hat23, hb'⟩
  obtain ⟨k23, s23, n23, a23, len23, cap23, rfl⟩ := K.at_lit hat23
  have H23 := Lib.hid hb'
  have A23 := Lib.hid hat23
  clear hb' hat23
  go_wp2_with fail
  refine (K.alt_walk (K.Cr.at_below H23.out (Nat.le_refl _) _ _ A22.out) (K.Cr.at_below (Below.refl _ _) (Nat.le_refl _) _ _ A23.out)).mono ?_
  rintro e w24 ⟨z24, rfl, hat24, hb'⟩
  obtain ⟨k24, s24, n24, a24, len24, cap24, rfl⟩ := K.at_lit hat24
  have H24 := Lib.hid hb'
  have A24 := Lib.hid hat24
  clear hb' hat24
  go_wp2_with fail
  refine (K.seq_walk (K.Cr.at_below (bt H20.out (bt H21.out (bt H22.out (bt H23.out H24.out)))) (Nat.le_refl _) _ _ A19.out) (K.Cr.at_below (Below.refl _ _) (Nat.le_refl _) _ _ A24.out)).mono ?_
  rintro e w25 ⟨z25, rfl, hat25, hb'⟩
  obtain ⟨k25, s25, n25, a25, len25, cap25, rfl⟩ := K.at_lit hat25
  have H25 := Lib.hid hb'
  have A25 := Lib.hid hat25
  clear hb' hat25
  go_wp2_with fail
  refine (byt_walk 97 (by decide) w25).mono ?_
  rintro e w26 ⟨z26, rfl, hat26, hb'⟩
  obtain ⟨k26, y26, a26, len26, cap26, rfl⟩ := at_lit hat26
  have H26 := Lib.hid hb'
  have A26 := Lib.hid hat26
  clear hb' hat26
  go_wp2_with fail
  refine (group_walk A26.out).mono ?_
  rintro e w27 ⟨z27, rfl, hat27, hb'⟩
  obtain ⟨k27, y27, a27, len27, cap27, rfl⟩ := at_lit hat27
  have H27 := Lib.hid hb'
  have A27 := Lib.hid hat27
  clear hb' hat27
  go_wp2_with fail
  refine (right_walk (x := .mk 1 0 []) (cs := [.int .i64 1, .int .u8 0, .slice none 0 0]) (at_plain (W := w27) rfl (by decide))).mono ?_
  rintro e w28 ⟨z28, rfl, hat28, hb'⟩
  obtain ⟨k28, y28, a28, len28, cap28, rfl⟩ := at_lit hat28
  have H28 := Lib.hid hb'
  have A28 := Lib.hid hat28
  clear hb' hat28
  go_wp2_with fail
  refine (row_walk (Vl.at_below H28.out (Nat.le_refl _) _ _ A27.out) (Vl.at_below (Below.refl _ _) (Nat.le_refl _) _ _ A28.out)).mono ?_
  rintro e w29 ⟨z29, rfl, hat29, hb'⟩
  obtain ⟨k29, y29, a29, len29, cap29, rfl⟩ := at_lit hat29
  have H29 := Lib.hid hb'
  have A29 := Lib.hid hat29
  clear hb' hat29
  go_wp2_with fail
  refine (of_eq (l := ([(0, 1), (0, 1)] : Sl)) (b := 0) (K.Cr.at_below (bt H26.out (bt H27.out (bt H28.out H29.out))) (Nat.le_refl _) _ _ A25.out) (Vl.at_below (Below.refl _ _) (Nat.le_refl _) _ _ A29.out) (by decide +kernel)).mono ?_
  rintro e w30 ⟨pa30, ca30, rfl, hsp, hb'⟩
  have H30 := Lib.hid hb'
  have S30 := Lib.hid hsp
  clear hb' hsp
  have BX1 := Lib.hid (fun (w' : World) (h : Below w30.heap.size w30 w') => ALLbc.out w' (bt (bt H9.out (bt H10.out (bt H11.out (bt H12.out (bt H13.out (bt H14.out (bt H15.out (bt H16.out (bt H17.out (bt H18.out (bt H19.out (bt H20.out (bt H21.out (bt H22.out (bt H23.out (bt H24.out (bt H25.out (bt H26.out (bt H27.out (bt H28.out (bt H29.out H30.out))))))))))))))))))))) h))
  go_upto_region 9 with fail
  go_cut [11, 12] from 88 to 93 (fun v11 v12 wx => isSl ([] : Sl) v11 wx ∧ v12 = .int .i64 1 ∧ Below w30.heap.size w30 wx)
  case first =>
   rename_i J K' hR hMet
   refine wp_region_guards (factAt (kF9 w30.heap.size)) (W0 := w30) (by kernel_rfl) (by kernel_rfl) (by kernel_rfl) (Below.refl _ _) (fun i v w w' h hk => factAt_stable (kF9_stable _) i v w w' h hk) [] (by kernel_rfl) ?hgu ?hop ?hend
   case hgu =>
     intro j hj v w h
     simp at hj
   case hop =>
     refine AllG.get0 ?_
     refine AllG.cons (k' := 1) rfl ?_ ?_
     · intro a' w' hB hk hin KK hK
       refine wp_load_coreK _ rfl bc 0 _ (eval_tmp (by rw [hk 1 (by kernel_rfl)]; rfl)) (BX1.out _ hB).1 ?_
       exact hK _ _ hB (KeepsC.of_below (Below.refl _ _)) (fact_put (P := isCore (K.Cr.mk 5 0 0 [(K.Cr.mk 4 0 0 [(K.Cr.mk 6 0 1 [(K.Cr.mk 2 bA 0 [])]), (K.Cr.mk 6 0 2 [(K.Cr.mk 2 bB 0 [])])])])) rfl ⟨_, rfl, (BX1.out _ hB).2⟩)
     refine AllG.cons (k' := 2) rfl ?_ ?_
     · intro a' w' hB hk hin KK hK
       unfold Oper.wp execOp
       go_simp
       refine (byt_walk 97 (by decide) w').mono ?_
       rintro e wn ⟨zz, rfl, hat, hbn⟩
       exact hK _ _ (hB.trans (hbn.mono hB.size)) (KeepsC.of_below hbn) (fact_put (P := isVal (Vl.mk 2 97 [])) rfl ⟨zz, rfl, hat⟩)
     refine AllG.cons (k' := 3) rfl ?_ ?_
     · intro a' w' hB hk hin KK hK
       obtain ⟨v1, e1, q1⟩ := hin 0 _ 89 rfl rfl ⟨{ on := 0, ground := .data }, by simp, rfl, rfl⟩
       have q1 := fact_get (P := isCore (K.Cr.mk 5 0 0 [(K.Cr.mk 4 0 0 [(K.Cr.mk 6 0 1 [(K.Cr.mk 2 bA 0 [])]), (K.Cr.mk 6 0 2 [(K.Cr.mk 2 bB 0 [])])])])) rfl q1
       obtain ⟨zs1, r1, hat1⟩ := q1
       subst r1
       obtain ⟨v2, e2, q2⟩ := hin 1 _ 90 rfl rfl ⟨{ on := 1, ground := .data }, by simp, rfl, rfl⟩
       have q2 := fact_get (P := isVal (Vl.mk 2 97 [])) rfl q2
       obtain ⟨zs2, r2, hat2⟩ := q2
       subst r2
       unfold Oper.wp execOp
       go_simp
       refine (of_eq (l := ([] : Sl)) (b := 1) hat1 hat2 (by decide +kernel)).mono ?_
       rintro e wn ⟨pa, ca, rfl, hsp, hbn⟩
       exact hK _ _ (hB.trans (hbn.mono hB.size)) (KeepsC.of_below hbn) (fact_put (P := isOf ([] : Sl) (1)) rfl ⟨_, _, rfl, hsp⟩)
     refine AllG.cons (k' := 4) rfl ?_ ?_
     · intro a' w' hB hk hin KK hK
       obtain ⟨v3, e3, q3⟩ := hin 2 _ 91 rfl rfl ⟨{ on := 2, ground := .data }, by simp, rfl, rfl⟩
       have q3 := fact_get (P := isOf ([] : Sl) (1)) rfl q3
       obtain ⟨pa3, ca3, r3, hs3⟩ := q3
       subst r3
       unfold Oper.wp execOp
       go_simp
       exact hK _ _ hB (KeepsC.of_below (Below.refl _ _)) (fact_put (P := isOf ([] : Sl) (1)) rfl ⟨_, _, rfl, hs3⟩)
     refine AllG.cons (k' := 5) rfl ?_ ?_
     · intro a' w' hB hk hin KK hK
       obtain ⟨v4, e4, q4⟩ := hin 3 _ 88 rfl rfl ⟨{ on := 3, ground := .data }, by simp, rfl, rfl⟩
       have q4 := fact_get (P := isOf ([] : Sl) (1)) rfl q4
       obtain ⟨pa4, ca4, r4, hs4⟩ := q4
       subst r4
       unfold Oper.wp execOp
       go_simp
       exact hK _ _ hB (KeepsC.of_below (Below.refl _ _)) (fact_put (P := isSl ([] : Sl)) rfl ⟨_, _, rfl, hs4⟩)
     refine AllG.cons (k' := 6) rfl ?_ ?_
     · intro a' w' hB hk hin KK hK
       obtain ⟨v5, e5, q5⟩ := hin 3 _ 88 rfl rfl ⟨{ on := 3, ground := .data }, by simp, rfl, rfl⟩
       have q5 := fact_get (P := isOf ([] : Sl) (1)) rfl q5
       obtain ⟨pa5, ca5, r5, hs5⟩ := q5
       subst r5
       unfold Oper.wp execOp
       go_simp
       exact hK _ _ hB (KeepsC.of_below (Below.refl _ _)) (fact_put (P := isEq (.int .i64 1)) rfl rfl)
     refine AllG.cons (k' := 7) rfl ?_ ?_
     · intro a' w' hB hk hin KK hK
       obtain ⟨v6, e6, q6⟩ := hin 4 _ 92 rfl rfl ⟨{ on := 4, ground := .data }, by simp, rfl, rfl⟩
       have q6 := fact_get (P := isSl ([] : Sl)) rfl q6
       obtain ⟨pa6, ca6, r6, hs6⟩ := q6
       subst r6
       unfold Oper.wp execOp
       go_simp
       exact hK _ _ hB (KeepsC.of_below (Below.refl _ _)) (fact_put (P := isSl ([] : Sl)) rfl ⟨_, _, rfl, hs6⟩)
     refine AllG.cons (k' := 8) rfl ?_ ?_
     · intro a' w' hB hk hin KK hK
       obtain ⟨v7, e7, q7⟩ := hin 5 _ 93 rfl rfl ⟨{ on := 5, ground := .data }, by simp, rfl, rfl⟩
       have q7 := fact_get (P := isEq (.int .i64 1)) rfl q7
       have q7' : v7 = .int .i64 1 := q7
       subst q7'
       unfold Oper.wp execOp
       go_simp
       exact hK _ _ hB (KeepsC.of_below (Below.refl _ _)) (fact_put (P := isEq (.int .i64 1)) rfl rfl)
     exact AllG.nil
   case hend =>
    intro a' w' hB hdef hsz hk hvals
    obtain ⟨v0', hv0, hvt0⟩ := hvals 6 _ 11 rfl rfl
    obtain ⟨v1', hv1, hvt1⟩ := hvals 7 _ 12 rfl rfl
    have hvt0' := fact_get (P := isSl ([] : Sl)) rfl hvt0
    have hvt1' := fact_get (P := isEq (.int .i64 1)) rfl hvt1
    have hf0 : a'.tmps.getD 11 undef = v0' := by rw [Array.getD_eq_getD_getElem?, hv0]; rfl
    have hf1 : a'.tmps.getD 12 undef = v1' := by rw [Array.getD_eq_getD_getElem?, hv1]; rfl
    have heq := act_eq hdef hsz hk
    refine hMet a' w' (Met.intro (hR a' w' ?_))
    refine ⟨a'.tmps.getD 11 undef, a'.tmps.getD 12 undef, a'.tmps.getD 88 undef, a'.tmps.getD 89 undef, a'.tmps.getD 90 undef, a'.tmps.getD 91 undef, a'.tmps.getD 92 undef, a'.tmps.getD 93 undef, ⟨by rw [hf0]; exact hvt0', by rw [hf1]; exact hvt1', hB⟩, heq.trans ?_⟩
    kernel_rfl
  case rest =>
  obtain ⟨⟨pa31, ca31, rfl, hsp⟩, rfl, hBc⟩ := hcut
  obtain ⟨w31, rfl⟩ : ∃ w31, w31 = wc := ⟨_, rfl⟩
  have H31 := Lib.hid hBc
  have S31 := Lib.hid hsp
  clear hBc hsp BX1
  have BX1 := Lib.hid (fun (w' : World) (h : Below w31.heap.size w31 w') => ALLbc.out w' (bt (bt H9.out (bt H10.out (bt H11.out (bt H12.out (bt H13.out (bt H14.out (bt H15.out (bt H16.out (bt H17.out (bt H18.out (bt H19.out (bt H20.out (bt H21.out (bt H22.out (bt H23.out (bt H24.out (bt H25.out (bt H26.out (bt H27.out (bt H28.out (bt H29.out (bt H30.out H31.out)))))))))))))))))))))) h))
  go_upto_region 10 with fail
  go_cut [13, 14] from 94 to 99 (fun v13 v14 wx => isSl ([] : Sl) v13 wx ∧ v14 = .int .i64 1 ∧ Below w31.heap.size w31 wx)
  case first =>
   rename_i J K' hR hMet
   refine wp_region_guards (factAt (kF10 w31.heap.size)) (W0 := w31) (by kernel_rfl) (by kernel_rfl) (by kernel_rfl) (Below.refl _ _) (fun i v w w' h hk => factAt_stable (kF10_stable _) i v w w' h hk) [] (by kernel_rfl) ?hgu ?hop ?hend
   case hgu =>
     intro j hj v w h
     simp at hj
   case hop =>
     refine AllG.get0 ?_
     refine AllG.cons (k' := 1) rfl ?_ ?_
     · intro a' w' hB hk hin KK hK
       refine wp_load_coreK _ rfl bc 0 _ (eval_tmp (by rw [hk 1 (by kernel_rfl)]; rfl)) (BX1.out _ hB).1 ?_
       exact hK _ _ hB (KeepsC.of_below (Below.refl _ _)) (fact_put (P := isCore (K.Cr.mk 5 0 0 [(K.Cr.mk 4 0 0 [(K.Cr.mk 6 0 1 [(K.Cr.mk 2 bA 0 [])]), (K.Cr.mk 6 0 2 [(K.Cr.mk 2 bB 0 [])])])])) rfl ⟨_, rfl, (BX1.out _ hB).2⟩)
     refine AllG.cons (k' := 2) rfl ?_ ?_
     · intro a' w' hB hk hin KK hK
       unfold Oper.wp execOp
       go_simp
       refine (many_walk (l := []) ⟨none, 0, rfl, by decide, .inl rfl⟩).mono ?_
       rintro e wn ⟨zz, rfl, hat, hbn⟩
       exact hK _ _ (hB.trans (hbn.mono hB.size)) (KeepsC.of_below hbn) (fact_put (P := isVal (Vl.mk 6 0 [])) rfl ⟨zz, rfl, hat⟩)
     refine AllG.cons (k' := 3) rfl ?_ ?_
     · intro a' w' hB hk hin KK hK
       obtain ⟨v1, e1, q1⟩ := hin 0 _ 95 rfl rfl ⟨{ on := 0, ground := .data }, by simp, rfl, rfl⟩
       have q1 := fact_get (P := isCore (K.Cr.mk 5 0 0 [(K.Cr.mk 4 0 0 [(K.Cr.mk 6 0 1 [(K.Cr.mk 2 bA 0 [])]), (K.Cr.mk 6 0 2 [(K.Cr.mk 2 bB 0 [])])])])) rfl q1
       obtain ⟨zs1, r1, hat1⟩ := q1
       subst r1
       obtain ⟨v2, e2, q2⟩ := hin 1 _ 96 rfl rfl ⟨{ on := 1, ground := .data }, by simp, rfl, rfl⟩
       have q2 := fact_get (P := isVal (Vl.mk 6 0 [])) rfl q2
       obtain ⟨zs2, r2, hat2⟩ := q2
       subst r2
       unfold Oper.wp execOp
       go_simp
       refine (of_eq (l := ([] : Sl)) (b := 1) hat1 hat2 (by decide +kernel)).mono ?_
       rintro e wn ⟨pa, ca, rfl, hsp, hbn⟩
       exact hK _ _ (hB.trans (hbn.mono hB.size)) (KeepsC.of_below hbn) (fact_put (P := isOf ([] : Sl) (1)) rfl ⟨_, _, rfl, hsp⟩)
     refine AllG.cons (k' := 4) rfl ?_ ?_
     · intro a' w' hB hk hin KK hK
       obtain ⟨v3, e3, q3⟩ := hin 2 _ 97 rfl rfl ⟨{ on := 2, ground := .data }, by simp, rfl, rfl⟩
       have q3 := fact_get (P := isOf ([] : Sl) (1)) rfl q3
       obtain ⟨pa3, ca3, r3, hs3⟩ := q3
       subst r3
       unfold Oper.wp execOp
       go_simp
       exact hK _ _ hB (KeepsC.of_below (Below.refl _ _)) (fact_put (P := isOf ([] : Sl) (1)) rfl ⟨_, _, rfl, hs3⟩)
     refine AllG.cons (k' := 5) rfl ?_ ?_
     · intro a' w' hB hk hin KK hK
       obtain ⟨v4, e4, q4⟩ := hin 3 _ 94 rfl rfl ⟨{ on := 3, ground := .data }, by simp, rfl, rfl⟩
       have q4 := fact_get (P := isOf ([] : Sl) (1)) rfl q4
       obtain ⟨pa4, ca4, r4, hs4⟩ := q4
       subst r4
       unfold Oper.wp execOp
       go_simp
       exact hK _ _ hB (KeepsC.of_below (Below.refl _ _)) (fact_put (P := isSl ([] : Sl)) rfl ⟨_, _, rfl, hs4⟩)
     refine AllG.cons (k' := 6) rfl ?_ ?_
     · intro a' w' hB hk hin KK hK
       obtain ⟨v5, e5, q5⟩ := hin 3 _ 94 rfl rfl ⟨{ on := 3, ground := .data }, by simp, rfl, rfl⟩
       have q5 := fact_get (P := isOf ([] : Sl) (1)) rfl q5
       obtain ⟨pa5, ca5, r5, hs5⟩ := q5
       subst r5
       unfold Oper.wp execOp
       go_simp
       exact hK _ _ hB (KeepsC.of_below (Below.refl _ _)) (fact_put (P := isEq (.int .i64 1)) rfl rfl)
     refine AllG.cons (k' := 7) rfl ?_ ?_
     · intro a' w' hB hk hin KK hK
       obtain ⟨v6, e6, q6⟩ := hin 4 _ 98 rfl rfl ⟨{ on := 4, ground := .data }, by simp, rfl, rfl⟩
       have q6 := fact_get (P := isSl ([] : Sl)) rfl q6
       obtain ⟨pa6, ca6, r6, hs6⟩ := q6
       subst r6
       unfold Oper.wp execOp
       go_simp
       exact hK _ _ hB (KeepsC.of_below (Below.refl _ _)) (fact_put (P := isSl ([] : Sl)) rfl ⟨_, _, rfl, hs6⟩)
     refine AllG.cons (k' := 8) rfl ?_ ?_
     · intro a' w' hB hk hin KK hK
       obtain ⟨v7, e7, q7⟩ := hin 5 _ 99 rfl rfl ⟨{ on := 5, ground := .data }, by simp, rfl, rfl⟩
       have q7 := fact_get (P := isEq (.int .i64 1)) rfl q7
       have q7' : v7 = .int .i64 1 := q7
       subst q7'
       unfold Oper.wp execOp
       go_simp
       exact hK _ _ hB (KeepsC.of_below (Below.refl _ _)) (fact_put (P := isEq (.int .i64 1)) rfl rfl)
     exact AllG.nil
   case hend =>
    intro a' w' hB hdef hsz hk hvals
    obtain ⟨v0', hv0, hvt0⟩ := hvals 6 _ 13 rfl rfl
    obtain ⟨v1', hv1, hvt1⟩ := hvals 7 _ 14 rfl rfl
    have hvt0' := fact_get (P := isSl ([] : Sl)) rfl hvt0
    have hvt1' := fact_get (P := isEq (.int .i64 1)) rfl hvt1
    have hf0 : a'.tmps.getD 13 undef = v0' := by rw [Array.getD_eq_getD_getElem?, hv0]; rfl
    have hf1 : a'.tmps.getD 14 undef = v1' := by rw [Array.getD_eq_getD_getElem?, hv1]; rfl
    have heq := act_eq hdef hsz hk
    refine hMet a' w' (Met.intro (hR a' w' ?_))
    refine ⟨a'.tmps.getD 13 undef, a'.tmps.getD 14 undef, a'.tmps.getD 94 undef, a'.tmps.getD 95 undef, a'.tmps.getD 96 undef, a'.tmps.getD 97 undef, a'.tmps.getD 98 undef, a'.tmps.getD 99 undef, ⟨by rw [hf0]; exact hvt0', by rw [hf1]; exact hvt1', hB⟩, heq.trans ?_⟩
    kernel_rfl
  case rest =>
  obtain ⟨⟨pa32, ca32, rfl, hsp⟩, rfl, hBc⟩ := hcut
  obtain ⟨w32, rfl⟩ : ∃ w32, w32 = wc := ⟨_, rfl⟩
  have H32 := Lib.hid hBc
  have S32 := Lib.hid hsp
  clear hBc hsp BX1
  have BX1 := Lib.hid (fun (w' : World) (h : Below w32.heap.size w32 w') => ALLbc.out w' (bt (bt H9.out (bt H10.out (bt H11.out (bt H12.out (bt H13.out (bt H14.out (bt H15.out (bt H16.out (bt H17.out (bt H18.out (bt H19.out (bt H20.out (bt H21.out (bt H22.out (bt H23.out (bt H24.out (bt H25.out (bt H26.out (bt H27.out (bt H28.out (bt H29.out (bt H30.out (bt H31.out H32.out))))))))))))))))))))))) h))
  go_upto_region 11 with fail
  go_cut [15, 16] from 100 to 105 (fun v15 v16 wx => isSl ([] : Sl) v15 wx ∧ v16 = .int .i64 1 ∧ Below w32.heap.size w32 wx)
  case first =>
   rename_i J K' hR hMet
   refine wp_region_guards (factAt (kF11 w32.heap.size)) (W0 := w32) (by kernel_rfl) (by kernel_rfl) (by kernel_rfl) (Below.refl _ _) (fun i v w w' h hk => factAt_stable (kF11_stable _) i v w w' h hk) [] (by kernel_rfl) ?hgu ?hop ?hend
   case hgu =>
     intro j hj v w h
     simp at hj
   case hop =>
     refine AllG.get0 ?_
     refine AllG.cons (k' := 1) rfl ?_ ?_
     · intro a' w' hB hk hin KK hK
       refine wp_load_coreK _ rfl bc 0 _ (eval_tmp (by rw [hk 1 (by kernel_rfl)]; rfl)) (BX1.out _ hB).1 ?_
       exact hK _ _ hB (KeepsC.of_below (Below.refl _ _)) (fact_put (P := isCore (K.Cr.mk 5 0 0 [(K.Cr.mk 4 0 0 [(K.Cr.mk 6 0 1 [(K.Cr.mk 2 bA 0 [])]), (K.Cr.mk 6 0 2 [(K.Cr.mk 2 bB 0 [])])])])) rfl ⟨_, rfl, (BX1.out _ hB).2⟩)
     refine AllG.cons (k' := 2) rfl ?_ ?_
     · intro a' w' hB hk hin KK hK
       unfold Oper.wp execOp
       go_simp
       refine (many_walk (l := []) ⟨none, 0, rfl, by decide, .inl rfl⟩).mono ?_
       rintro e wn ⟨zz, rfl, hat, hbn⟩
       exact hK _ _ (hB.trans (hbn.mono hB.size)) (KeepsC.of_below hbn) (fact_put (P := isVal (Vl.mk 6 0 [])) rfl ⟨zz, rfl, hat⟩)
     refine AllG.cons (k' := 3) rfl ?_ ?_
     · intro a' w' hB hk hin KK hK
       obtain ⟨v1, e1, q1⟩ := hin 0 _ 101 rfl rfl ⟨{ on := 0, ground := .data }, by simp, rfl, rfl⟩
       have q1 := fact_get (P := isCore (K.Cr.mk 5 0 0 [(K.Cr.mk 4 0 0 [(K.Cr.mk 6 0 1 [(K.Cr.mk 2 bA 0 [])]), (K.Cr.mk 6 0 2 [(K.Cr.mk 2 bB 0 [])])])])) rfl q1
       obtain ⟨zs1, r1, hat1⟩ := q1
       subst r1
       obtain ⟨v2, e2, q2⟩ := hin 1 _ 102 rfl rfl ⟨{ on := 1, ground := .data }, by simp, rfl, rfl⟩
       have q2 := fact_get (P := isVal (Vl.mk 6 0 [])) rfl q2
       obtain ⟨zs2, r2, hat2⟩ := q2
       subst r2
       unfold Oper.wp execOp
       go_simp
       refine (of_eq (l := ([] : Sl)) (b := 1) hat1 hat2 (by decide +kernel)).mono ?_
       rintro e wn ⟨pa, ca, rfl, hsp, hbn⟩
       exact hK _ _ (hB.trans (hbn.mono hB.size)) (KeepsC.of_below hbn) (fact_put (P := isOf ([] : Sl) (1)) rfl ⟨_, _, rfl, hsp⟩)
     refine AllG.cons (k' := 4) rfl ?_ ?_
     · intro a' w' hB hk hin KK hK
       obtain ⟨v3, e3, q3⟩ := hin 2 _ 103 rfl rfl ⟨{ on := 2, ground := .data }, by simp, rfl, rfl⟩
       have q3 := fact_get (P := isOf ([] : Sl) (1)) rfl q3
       obtain ⟨pa3, ca3, r3, hs3⟩ := q3
       subst r3
       unfold Oper.wp execOp
       go_simp
       exact hK _ _ hB (KeepsC.of_below (Below.refl _ _)) (fact_put (P := isOf ([] : Sl) (1)) rfl ⟨_, _, rfl, hs3⟩)
     refine AllG.cons (k' := 5) rfl ?_ ?_
     · intro a' w' hB hk hin KK hK
       obtain ⟨v4, e4, q4⟩ := hin 3 _ 100 rfl rfl ⟨{ on := 3, ground := .data }, by simp, rfl, rfl⟩
       have q4 := fact_get (P := isOf ([] : Sl) (1)) rfl q4
       obtain ⟨pa4, ca4, r4, hs4⟩ := q4
       subst r4
       unfold Oper.wp execOp
       go_simp
       exact hK _ _ hB (KeepsC.of_below (Below.refl _ _)) (fact_put (P := isSl ([] : Sl)) rfl ⟨_, _, rfl, hs4⟩)
     refine AllG.cons (k' := 6) rfl ?_ ?_
     · intro a' w' hB hk hin KK hK
       obtain ⟨v5, e5, q5⟩ := hin 3 _ 100 rfl rfl ⟨{ on := 3, ground := .data }, by simp, rfl, rfl⟩
       have q5 := fact_get (P := isOf ([] : Sl) (1)) rfl q5
       obtain ⟨pa5, ca5, r5, hs5⟩ := q5
       subst r5
       unfold Oper.wp execOp
       go_simp
       exact hK _ _ hB (KeepsC.of_below (Below.refl _ _)) (fact_put (P := isEq (.int .i64 1)) rfl rfl)
     refine AllG.cons (k' := 7) rfl ?_ ?_
     · intro a' w' hB hk hin KK hK
       obtain ⟨v6, e6, q6⟩ := hin 4 _ 104 rfl rfl ⟨{ on := 4, ground := .data }, by simp, rfl, rfl⟩
       have q6 := fact_get (P := isSl ([] : Sl)) rfl q6
       obtain ⟨pa6, ca6, r6, hs6⟩ := q6
       subst r6
       unfold Oper.wp execOp
       go_simp
       exact hK _ _ hB (KeepsC.of_below (Below.refl _ _)) (fact_put (P := isSl ([] : Sl)) rfl ⟨_, _, rfl, hs6⟩)
     refine AllG.cons (k' := 8) rfl ?_ ?_
     · intro a' w' hB hk hin KK hK
       obtain ⟨v7, e7, q7⟩ := hin 5 _ 105 rfl rfl ⟨{ on := 5, ground := .data }, by simp, rfl, rfl⟩
       have q7 := fact_get (P := isEq (.int .i64 1)) rfl q7
       have q7' : v7 = .int .i64 1 := q7
       subst q7'
       unfold Oper.wp execOp
       go_simp
       exact hK _ _ hB (KeepsC.of_below (Below.refl _ _)) (fact_put (P := isEq (.int .i64 1)) rfl rfl)
     exact AllG.nil
   case hend =>
    intro a' w' hB hdef hsz hk hvals
    obtain ⟨v0', hv0, hvt0⟩ := hvals 6 _ 15 rfl rfl
    obtain ⟨v1', hv1, hvt1⟩ := hvals 7 _ 16 rfl rfl
    have hvt0' := fact_get (P := isSl ([] : Sl)) rfl hvt0
    have hvt1' := fact_get (P := isEq (.int .i64 1)) rfl hvt1
    have hf0 : a'.tmps.getD 15 undef = v0' := by rw [Array.getD_eq_getD_getElem?, hv0]; rfl
    have hf1 : a'.tmps.getD 16 undef = v1' := by rw [Array.getD_eq_getD_getElem?, hv1]; rfl
    have heq := act_eq hdef hsz hk
    refine hMet a' w' (Met.intro (hR a' w' ?_))
    refine ⟨a'.tmps.getD 15 undef, a'.tmps.getD 16 undef, a'.tmps.getD 100 undef, a'.tmps.getD 101 undef, a'.tmps.getD 102 undef, a'.tmps.getD 103 undef, a'.tmps.getD 104 undef, a'.tmps.getD 105 undef, ⟨by rw [hf0]; exact hvt0', by rw [hf1]; exact hvt1', hB⟩, heq.trans ?_⟩
    kernel_rfl
  case rest =>
  obtain ⟨⟨pa33, ca33, rfl, hsp⟩, rfl, hBc⟩ := hcut
  obtain ⟨w33, rfl⟩ : ∃ w33, w33 = wc := ⟨_, rfl⟩
  have H33 := Lib.hid hBc
  have S33 := Lib.hid hsp
  clear hBc hsp BX1
  go_wp2_with fail
  refine (text_eq12 (t := ⟨#[40, 53, 44, 55, 41, 32, 45, 32, 40, 54, 44, 55, 41]⟩) (S9.out.below (bt H10.out (bt H11.out (bt H12.out (bt H13.out (bt H14.out (bt H15.out (bt H16.out (bt H17.out (bt H18.out (bt H19.out (bt H20.out (bt H21.out (bt H22.out (bt H23.out (bt H24.out (bt H25.out (bt H26.out (bt H27.out (bt H28.out (bt H29.out (bt H30.out (bt H31.out (bt H32.out H33.out)))))))))))))))))))))))) (pow_below HP.out (bt H1.out (bt H2.out (bt H3.out (bt H4.out (bt H5.out (bt H6.out (bt H7.out (bt H8.out (bt H9.out (bt H10.out (bt H11.out (bt H12.out (bt H13.out (bt H14.out (bt H15.out (bt H16.out (bt H17.out (bt H18.out (bt H19.out (bt H20.out (bt H21.out (bt H22.out (bt H23.out (bt H24.out (bt H25.out (bt H26.out (bt H27.out (bt H28.out (bt H29.out (bt H30.out (bt H31.out (bt H32.out H33.out))))))))))))))))))))))))))))))))) (by decide +kernel)).mono ?_
  rintro e w34 ⟨rfl, hb'⟩
  have H34 := Lib.hid hb'
  clear hb'
  go_wp2_with fail
  refine (text_eq12 (t := ⟨#[40, 48, 44, 50, 41, 32, 40, 49, 44, 50, 41, 32, 45, 32, 45]⟩) (S16.out.below (bt H17.out (bt H18.out (bt H19.out (bt H20.out (bt H21.out (bt H22.out (bt H23.out (bt H24.out (bt H25.out (bt H26.out (bt H27.out (bt H28.out (bt H29.out (bt H30.out (bt H31.out (bt H32.out (bt H33.out H34.out)))))))))))))))))) (pow_below HP.out (bt H1.out (bt H2.out (bt H3.out (bt H4.out (bt H5.out (bt H6.out (bt H7.out (bt H8.out (bt H9.out (bt H10.out (bt H11.out (bt H12.out (bt H13.out (bt H14.out (bt H15.out (bt H16.out (bt H17.out (bt H18.out (bt H19.out (bt H20.out (bt H21.out (bt H22.out (bt H23.out (bt H24.out (bt H25.out (bt H26.out (bt H27.out (bt H28.out (bt H29.out (bt H30.out (bt H31.out (bt H32.out (bt H33.out H34.out)))))))))))))))))))))))))))))))))) (by decide +kernel)).mono ?_
  rintro e w35 ⟨rfl, hb'⟩
  have H35 := Lib.hid hb'
  clear hb'
  go_wp2_with fail
  refine (text_eq12 (t := ⟨#[40, 51, 44, 51, 41]⟩) (S17.out.below (bt H18.out (bt H19.out (bt H20.out (bt H21.out (bt H22.out (bt H23.out (bt H24.out (bt H25.out (bt H26.out (bt H27.out (bt H28.out (bt H29.out (bt H30.out (bt H31.out (bt H32.out (bt H33.out (bt H34.out H35.out)))))))))))))))))) (pow_below HP.out (bt H1.out (bt H2.out (bt H3.out (bt H4.out (bt H5.out (bt H6.out (bt H7.out (bt H8.out (bt H9.out (bt H10.out (bt H11.out (bt H12.out (bt H13.out (bt H14.out (bt H15.out (bt H16.out (bt H17.out (bt H18.out (bt H19.out (bt H20.out (bt H21.out (bt H22.out (bt H23.out (bt H24.out (bt H25.out (bt H26.out (bt H27.out (bt H28.out (bt H29.out (bt H30.out (bt H31.out (bt H32.out (bt H33.out (bt H34.out H35.out))))))))))))))))))))))))))))))))))) (by decide +kernel)).mono ?_
  rintro e w36 ⟨rfl, hb'⟩
  have H36 := Lib.hid hb'
  clear hb'
  go_wp2_with fail
  refine (text_eq12 (t := ⟨#[40, 48, 44, 49, 41, 32, 40, 48, 44, 49, 41]⟩) (S30.out.below (bt H31.out (bt H32.out (bt H33.out (bt H34.out (bt H35.out H36.out)))))) (pow_below HP.out (bt H1.out (bt H2.out (bt H3.out (bt H4.out (bt H5.out (bt H6.out (bt H7.out (bt H8.out (bt H9.out (bt H10.out (bt H11.out (bt H12.out (bt H13.out (bt H14.out (bt H15.out (bt H16.out (bt H17.out (bt H18.out (bt H19.out (bt H20.out (bt H21.out (bt H22.out (bt H23.out (bt H24.out (bt H25.out (bt H26.out (bt H27.out (bt H28.out (bt H29.out (bt H30.out (bt H31.out (bt H32.out (bt H33.out (bt H34.out (bt H35.out H36.out)))))))))))))))))))))))))))))))))))) (by decide +kernel)).mono ?_
  rintro e w37 ⟨rfl, hb'⟩
  have H37 := Lib.hid hb'
  clear hb'
  go_wp2_with fail
  refine (text_eq12 (l := []) (t := ⟨#[]⟩) (w := w37) ⟨by decide, .inl rfl⟩ (pow_below HP.out (bt H1.out (bt H2.out (bt H3.out (bt H4.out (bt H5.out (bt H6.out (bt H7.out (bt H8.out (bt H9.out (bt H10.out (bt H11.out (bt H12.out (bt H13.out (bt H14.out (bt H15.out (bt H16.out (bt H17.out (bt H18.out (bt H19.out (bt H20.out (bt H21.out (bt H22.out (bt H23.out (bt H24.out (bt H25.out (bt H26.out (bt H27.out (bt H28.out (bt H29.out (bt H30.out (bt H31.out (bt H32.out (bt H33.out (bt H34.out (bt H35.out (bt H36.out H37.out))))))))))))))))))))))))))))))))))))) (by decide +kernel)).mono ?_
  rintro e w38 ⟨rfl, hb'⟩
  have H38 := Lib.hid hb'
  clear hb'
  have hsl : SpAt (w38.alloc (.cells #[.int .i64 (-2), .int .i64 (-1)] 47)) (some ⟨w38.heap.size, 0, none⟩) 1 [(-2, -1)] := ⟨by decide, .inr ⟨w38.heap.size, 0, rfl, Nat.le_refl _, by simp, fun j hj => by
    have hj0 : j = 0 := by simp at hj; omega
    subst hj0
    rw [cells_at (World.alloc_heap_new w38 _), cells_at (World.alloc_heap_new w38 _)]
    exact ⟨rfl, rfl⟩⟩⟩
  have Hsl := Lib.hid hsl
  clear hsl
  go_wp2_with fail
  refine (text_eq12 (l := [(-2, -1)]) (t := ⟨#[40, 45, 50, 44, 45, 49, 41]⟩) Hsl.out (pow_below HP.out (bt (bt H1.out (bt H2.out (bt H3.out (bt H4.out (bt H5.out (bt H6.out (bt H7.out (bt H8.out (bt H9.out (bt H10.out (bt H11.out (bt H12.out (bt H13.out (bt H14.out (bt H15.out (bt H16.out (bt H17.out (bt H18.out (bt H19.out (bt H20.out (bt H21.out (bt H22.out (bt H23.out (bt H24.out (bt H25.out (bt H26.out (bt H27.out (bt H28.out (bt H29.out (bt H30.out (bt H31.out (bt H32.out (bt H33.out (bt H34.out (bt H35.out (bt H36.out (bt H37.out H38.out))))))))))))))))))))))))))))))))))))) (K.alloc_below _ _))) (by decide +kernel)).mono ?_
  rintro e w39 ⟨rfl, hb'⟩
  have H39 := Lib.hid (bt (K.alloc_below w38 _) hb')
  clear hb' Hsl
  go_wp2_with fail
  go_ret
  exact ⟨rfl, (bt H1.out (bt H2.out (bt H3.out (bt H4.out (bt H5.out (bt H6.out (bt H7.out (bt H8.out (bt H9.out (bt H10.out (bt H11.out (bt H12.out (bt H13.out (bt H14.out (bt H15.out (bt H16.out (bt H17.out (bt H18.out (bt H19.out (bt H20.out (bt H21.out (bt H22.out (bt H23.out (bt H24.out (bt H25.out (bt H26.out (bt H27.out (bt H28.out (bt H29.out (bt H30.out (bt H31.out (bt H32.out (bt H33.out (bt H34.out (bt H35.out (bt H36.out (bt H37.out (bt H38.out H39.out))))))))))))))))))))))))))))))))))))))⟩
end V
end Go.Proofs.YtonhmjfopidacaaDoor
