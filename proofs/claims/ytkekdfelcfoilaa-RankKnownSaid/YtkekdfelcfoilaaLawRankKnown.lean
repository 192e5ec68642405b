/- The law RankKnown, walked. -/
import Derived.Test.YtkekdfelcfoilaaRankLaw
import Derived.Test.YtkekdfelcfoilaaRankBest
import Derived.Test.YtkekdfelcfoilaaAnyGuard
namespace Go.Proofs.Ytkekdfelcfoilaa
namespace V
set_option maxRecDepth 100000
open Go.RowKit
theorem bt {a b c : World} (h : Below a.heap.size a b) (h' : Below b.heap.size b c) : Below a.heap.size a c := h.trans (h'.mono h.size)
/-- is it the best of a list? -/
def bestB (l : List Vl) (i : Nat) : Bool := match l[i]? with
  | some x => l.zipIdx.all fun p => decide (0 ≤ ord p.1 x) && (decide (i ≤ p.2) || decide (0 < ord p.1 x))
  | none => false
theorem best_of_B {l : List Vl} {i : Nat} (h : bestB l i = true) : Best l i := by
  unfold bestB at h
  cases hx : l[i]? with
  | none => rw [hx] at h; cases h
  | some x =>
    rw [hx] at h
    simp only [List.all_eq_true, Bool.and_eq_true, Bool.or_eq_true, decide_eq_true_eq] at h
    have hg : ∀ (j : Nat) (y : Vl), l[j]? = some y → 0 ≤ ord y x ∧ (i ≤ j ∨ 0 < ord y x) := fun j y hj =>
      h (y, j) (List.mem_zipIdx_iff_getElem?.2 (by simpa using hj))
    exact ⟨x, hx, fun j y hj => (hg j y hj).1, fun j y hlt hj => (hg j y hj).2.resolve_left (by omega)⟩
theorem best_eq {l : List Vl} {v : Value} {w : World} {i : Nat} (hl : ListAt w l v) (h : (decide (0 < l.length) && l.all (fun x => decide (x.count ≤ 1048576)) && bestB l i) = true) :
    Calls Try.prog 13 #[v] w fun e w' => e = .returned (.tuple #[.int .i64 i, .bool true]) ∧ Below w.heap.size w w' := by
  simp only [Bool.and_eq_true, decide_eq_true_eq, List.all_eq_true] at h
  obtain ⟨⟨h0, hs⟩, hb⟩ := h
  refine (best_some h0 hs hl).mono ?_
  rintro e w' ⟨j, rfl, hj, hb'⟩
  obtain rfl := best_unique hs (best_of_B hb) hj
  exact ⟨rfl, hb'⟩
def kF10 (_B0 : Nat) : List Fact := [
  isVal (Vl.mk 2 120 []),
  isVal (Vl.mk 5 0 [(Vl.mk 2 120 [])]),
  isVal (Vl.mk 6 0 [(Vl.mk 5 0 [(Vl.mk 3 0 [(Vl.mk 2 97 []), (Vl.mk 2 98 [])])])]),
  isVal (Vl.mk 6 0 [(Vl.mk 4 0 [(Vl.mk 2 97 [])]), (Vl.mk 4 0 [(Vl.mk 2 98 [])])]),
  isVal (Vl.mk 6 0 [(Vl.mk 5 0 [(Vl.mk 3 0 [(Vl.mk 2 97 []), (Vl.mk 2 98 [])])])]),
  isVals [(Vl.mk 5 0 [(Vl.mk 2 120 [])]), (Vl.mk 6 0 [(Vl.mk 5 0 [(Vl.mk 3 0 [(Vl.mk 2 97 []), (Vl.mk 2 98 [])])])]), (Vl.mk 6 0 [(Vl.mk 4 0 [(Vl.mk 2 97 [])]), (Vl.mk 4 0 [(Vl.mk 2 98 [])])]), (Vl.mk 6 0 [(Vl.mk 5 0 [(Vl.mk 3 0 [(Vl.mk 2 97 []), (Vl.mk 2 98 [])])])])],
  isEq (.tuple #[.int .i64 1, .bool true]),
  isEq (.tuple #[.int .i64 1, .bool true]),
  isEq (.int .i64 1),
  isEq (.bool true),
  isEq (.int .i64 1),
  isEq (.bool true)]
theorem kF10_stable (B0 : Nat) : AllG (fun _ P => Stable P) 0 (kF10 B0) := by
  unfold kF10
  refine AllG.cons (k' := 1) rfl (isVal.stable _) ?_
  refine AllG.cons (k' := 2) rfl (isVal.stable _) ?_
  refine AllG.cons (k' := 3) rfl (isVal.stable _) ?_
  refine AllG.cons (k' := 4) rfl (isVal.stable _) ?_
  refine AllG.cons (k' := 5) rfl (isVal.stable _) ?_
  refine AllG.cons (k' := 6) rfl (isVals.stable _) ?_
  refine AllG.cons (k' := 7) rfl (isEq.stable _) ?_
  refine AllG.cons (k' := 8) rfl (isEq.stable _) ?_
  refine AllG.cons (k' := 9) rfl (isEq.stable _) ?_
  refine AllG.cons (k' := 10) rfl (isEq.stable _) ?_
  refine AllG.cons (k' := 11) rfl (isEq.stable _) ?_
  refine AllG.cons (k' := 12) rfl (isEq.stable _) ?_
  exact AllG.nil
def kF11 (_B0 : Nat) : List Fact := [
  isVal (Vl.mk 6 0 [(Vl.mk 5 0 [(Vl.mk 3 0 [(Vl.mk 2 97 []), (Vl.mk 2 98 [])])])]),
  isVal (Vl.mk 6 0 [(Vl.mk 4 0 [(Vl.mk 2 97 [])]), (Vl.mk 4 0 [(Vl.mk 2 98 [])])]),
  isEq (.int .i64 (-1)),
  isEq (.bool true),
  isEq (.bool true),
  isVal (Vl.mk 6 0 [(Vl.mk 4 0 [(Vl.mk 2 97 [])]), (Vl.mk 4 0 [(Vl.mk 2 98 [])])]),
  isVal (Vl.mk 6 0 [(Vl.mk 5 0 [(Vl.mk 3 0 [(Vl.mk 2 97 []), (Vl.mk 2 98 [])])])]),
  isEq (.int .i64 (1)),
  isEq (.bool true),
  isEq (.bool true),
  isEq (.bool true),
  isVal (Vl.mk 3 0 [(Vl.mk 2 97 []), (Vl.mk 2 98 [])]),
  isVal (Vl.mk 1 0 []),
  isVal (Vl.mk 3 0 [(Vl.mk 3 0 [(Vl.mk 2 97 []), (Vl.mk 2 98 [])]), (Vl.mk 1 0 [])]),
  isVal (Vl.mk 2 97 []),
  isVal (Vl.mk 2 98 []),
  isVal (Vl.mk 3 0 [(Vl.mk 2 97 []), (Vl.mk 2 98 [])]),
  isEq (.int .i64 (-1)),
  isEq (.bool true),
  isEq (.bool true),
  isEq (.bool true),
  isVal (Vl.mk 2 97 []),
  isVal (Vl.mk 4 0 [(Vl.mk 2 97 [])]),
  isVal (Vl.mk 2 97 []),
  isVal (Vl.mk 5 0 [(Vl.mk 2 97 [])]),
  isEq (.int .i64 (-1)),
  isEq (.bool true),
  isEq (.bool true),
  isEq (.bool true),
  isVal (Vl.mk 2 97 []),
  isVal (Vl.mk 2 98 []),
  isEq (.int .i64 (-1)),
  isEq (.bool true),
  isEq (.bool true),
  isEq (.bool true),
  isVal (Vl.mk 1 0 []),
  isVal (Vl.mk 2 97 []),
  isEq (.int .i64 (1)),
  isEq (.bool true),
  isEq (.bool true),
  isEq (.bool true),
  isVal (Vl.mk 0 0 []),
  isVal (Vl.mk 9 0 []),
  isEq (.int .i64 (-1)),
  isEq (.bool true),
  isEq (.bool true),
  isEq (.bool true),
  isVal (Vl.mk 4 0 []),
  isVal (Vl.mk 1 0 []),
  isVals [(Vl.mk 1 0 [])],
  isVal (Vl.mk 4 0 [(Vl.mk 1 0 [])]),
  isEq (.int .i64 (1)),
  isEq (.bool true),
  isEq (.bool true),
  isEq (.bool true),
  isEq (.bool true),
  isEq (.bool true),
  isEq (.bool true),
  isEq (.int .i64 0),
  isEq (.bool true),
  isEq (.bool true),
  isEq (.bool true),
  isEq (.bool false),
  isEq (.bool true),
  isEq (.bool true),
  isEq (.bool true),
  isEq (.bool true),
  isEq (.bool true),
  isEq (.bool true),
  isEq (.int .i64 1),
  isEq (.bool true),
  isEq (.bool true),
  isEq (.bool true)]
theorem kF11_stable (B0 : Nat) : AllG (fun _ P => Stable P) 0 (kF11 B0) := by
  unfold kF11
  refine AllG.cons (k' := 1) rfl (isVal.stable _) ?_
  refine AllG.cons (k' := 2) rfl (isVal.stable _) ?_
  refine AllG.cons (k' := 3) rfl (isEq.stable _) ?_
  refine AllG.cons (k' := 4) rfl (isEq.stable _) ?_
  refine AllG.cons (k' := 5) rfl (isEq.stable _) ?_
  refine AllG.cons (k' := 6) rfl (isVal.stable _) ?_
  refine AllG.cons (k' := 7) rfl (isVal.stable _) ?_
  refine AllG.cons (k' := 8) rfl (isEq.stable _) ?_
  refine AllG.cons (k' := 9) rfl (isEq.stable _) ?_
  refine AllG.cons (k' := 10) rfl (isEq.stable _) ?_
  refine AllG.cons (k' := 11) rfl (isEq.stable _) ?_
  refine AllG.cons (k' := 12) rfl (isVal.stable _) ?_
  refine AllG.cons (k' := 13) rfl (isVal.stable _) ?_
  refine AllG.cons (k' := 14) rfl (isVal.stable _) ?_
  refine AllG.cons (k' := 15) rfl (isVal.stable _) ?_
  refine AllG.cons (k' := 16) rfl (isVal.stable _) ?_
  refine AllG.cons (k' := 17) rfl (isVal.stable _) ?_
  refine AllG.cons (k' := 18) rfl (isEq.stable _) ?_
  refine AllG.cons (k' := 19) rfl (isEq.stable _) ?_
  refine AllG.cons (k' := 20) rfl (isEq.stable _) ?_
  refine AllG.cons (k' := 21) rfl (isEq.stable _) ?_
  refine AllG.cons (k' := 22) rfl (isVal.stable _) ?_
  refine AllG.cons (k' := 23) rfl (isVal.stable _) ?_
  refine AllG.cons (k' := 24) rfl (isVal.stable _) ?_
  refine AllG.cons (k' := 25) rfl (isVal.stable _) ?_
  refine AllG.cons (k' := 26) rfl (isEq.stable _) ?_
  refine AllG.cons (k' := 27) rfl (isEq.stable _) ?_
  refine AllG.cons (k' := 28) rfl (isEq.stable _) ?_
  refine AllG.cons (k' := 29) rfl (isEq.stable _) ?_
  refine AllG.cons (k' := 30) rfl (isVal.stable _) ?_
  refine AllG.cons (k' := 31) rfl (isVal.stable _) ?_
  refine AllG.cons (k' := 32) rfl (isEq.stable _) ?_
  refine AllG.cons (k' := 33) rfl (isEq.stable _) ?_
  refine AllG.cons (k' := 34) rfl (isEq.stable _) ?_
  refine AllG.cons (k' := 35) rfl (isEq.stable _) ?_
  refine AllG.cons (k' := 36) rfl (isVal.stable _) ?_
  refine AllG.cons (k' := 37) rfl (isVal.stable _) ?_
  refine AllG.cons (k' := 38) rfl (isEq.stable _) ?_
  refine AllG.cons (k' := 39) rfl (isEq.stable _) ?_
  refine AllG.cons (k' := 40) rfl (isEq.stable _) ?_
  refine AllG.cons (k' := 41) rfl (isEq.stable _) ?_
  refine AllG.cons (k' := 42) rfl (isVal.stable _) ?_
  refine AllG.cons (k' := 43) rfl (isVal.stable _) ?_
  refine AllG.cons (k' := 44) rfl (isEq.stable _) ?_
  refine AllG.cons (k' := 45) rfl (isEq.stable _) ?_
  refine AllG.cons (k' := 46) rfl (isEq.stable _) ?_
  refine AllG.cons (k' := 47) rfl (isEq.stable _) ?_
  refine AllG.cons (k' := 48) rfl (isVal.stable _) ?_
  refine AllG.cons (k' := 49) rfl (isVal.stable _) ?_
  refine AllG.cons (k' := 50) rfl (isVals.stable _) ?_
  refine AllG.cons (k' := 51) rfl (isVal.stable _) ?_
  refine AllG.cons (k' := 52) rfl (isEq.stable _) ?_
  refine AllG.cons (k' := 53) rfl (isEq.stable _) ?_
  refine AllG.cons (k' := 54) rfl (isEq.stable _) ?_
  refine AllG.cons (k' := 55) rfl (isEq.stable _) ?_
  refine AllG.cons (k' := 56) rfl (isEq.stable _) ?_
  refine AllG.cons (k' := 57) rfl (isEq.stable _) ?_
  refine AllG.cons (k' := 58) rfl (isEq.stable _) ?_
  refine AllG.cons (k' := 59) rfl (isEq.stable _) ?_
  refine AllG.cons (k' := 60) rfl (isEq.stable _) ?_
  refine AllG.cons (k' := 61) rfl (isEq.stable _) ?_
  refine AllG.cons (k' := 62) rfl (isEq.stable _) ?_
  refine AllG.cons (k' := 63) rfl (isEq.stable _) ?_
  refine AllG.cons (k' := 64) rfl (isEq.stable _) ?_
  refine AllG.cons (k' := 65) rfl (isEq.stable _) ?_
  refine AllG.cons (k' := 66) rfl (isEq.stable _) ?_
  refine AllG.cons (k' := 67) rfl (isEq.stable _) ?_
  refine AllG.cons (k' := 68) rfl (isEq.stable _) ?_
  refine AllG.cons (k' := 69) rfl (isEq.stable _) ?_
  refine AllG.cons (k' := 70) rfl (isEq.stable _) ?_
  refine AllG.cons (k' := 71) rfl (isEq.stable _) ?_
  refine AllG.cons (k' := 72) rfl (isEq.stable _) ?_
  refine AllG.cons (k' := 73) rfl (isEq.stable _) ?_
  exact AllG.nil
set_option maxHeartbeats 64000000 in
theorem rankKnown_walk (w : World) : Calls Try.prog 3 #[] w fun e w' => e = .returned (.bool true) ∧ Below w.heap.size w w' := by
  go_enter Try.func3, Try.ntmps3
  go_wp2_with fail
  refine (awake13_any _).mono ?_
  rintro e w2 ⟨rfl, hb'⟩
  have H2 := Lib.hid hb'
  clear hb'
  have A2 : Hid (Vl.at w2 (.mk 1 0 []) [.int .i64 1, .int .u8 0, .slice none 0 0]) := Lib.hid (at_plain rfl (by decide))
  obtain ⟨w3, hw3⟩ : ∃ w3, w3 = w2.alloc (.cells #[.int .i64 1, .int .u8 0, .slice none 0 0] 25) := ⟨_, rfl⟩
  have hal : Below w2.heap.size w2 w3 := by rw [hw3]; exact K.alloc_below _ _
  have hc : ValIn w3 w2.heap.size #[.int .i64 1, .int .u8 0, .slice none 0 0] := by rw [hw3]; exact World.alloc_heap_new _ _
  have h7 : Val3 w3 w2.heap.size 0 [.int .i64 1, .int .u8 0, .slice none 0 0] := val3_in hc rfl
  obtain ⟨be, hbe⟩ : ∃ be, be = w2.heap.size := ⟨_, rfl⟩
  rw [← hbe] at h7
  have hlt : be < w3.heap.size := by rw [hbe]; exact lt_of_block hc
  have hat : Vl.at w3 (Vl.mk 1 0 []) [.int .i64 1, .int .u8 0, .slice none 0 0] := Vl.at_below hal (Nat.le_refl _) _ _ (Vl.at_below (Below.refl _ _) (Nat.le_refl _) _ _ A2.out)
  have ALLbe := Lib.hid (fun (w' : World) (h : Below w3.heap.size w3 w') => And.intro (h7.below hlt h) (Vl.at_below h (Nat.le_refl _) _ _ hat))
  have H3 := Lib.hid hal
  clear hal hc h7 hlt hat
  go_upto_region 4 with fail
  rw [← hw3]
  rw [← hbe]
  clear hw3 hbe
  go_wp2_with fail
  refine (byt_walk 97 (by decide) w3).mono ?_
  rintro e w4 ⟨z4, rfl, hat4, hb'⟩
  obtain ⟨k4, y4, a4, len4, cap4, rfl⟩ := at_lit hat4
  have H4 := Lib.hid hb'
  have A4 := Lib.hid hat4
  clear hb' hat4
  go_wp2_with fail
  refine (byt_walk 98 (by decide) w4).mono ?_
  rintro e w5 ⟨z5, rfl, hat5, hb'⟩
  obtain ⟨k5, y5, a5, len5, cap5, rfl⟩ := at_lit hat5
  have H5 := Lib.hid hb'
  have A5 := Lib.hid hat5
  clear hb' hat5
  go_wp2_with fail
  refine (row_walk (Vl.at_below H5.out (Nat.le_refl _) _ _ A4.out) (Vl.at_below (Below.refl _ _) (Nat.le_refl _) _ _ A5.out)).mono ?_
  rintro e w6 ⟨z6, rfl, hat6, hb'⟩
  obtain ⟨k6, y6, a6, len6, cap6, rfl⟩ := at_lit hat6
  have H6 := Lib.hid hb'
  have A6 := Lib.hid hat6
  clear hb' hat6
  obtain ⟨w7, hw7⟩ : ∃ w7, w7 = w6.alloc (.cells #[.int .i64 k6, .int .u8 y6, .slice a6 len6 cap6] 25) := ⟨_, rfl⟩
  have hal : Below w6.heap.size w6 w7 := by rw [hw7]; exact K.alloc_below _ _
  have hc : ValIn w7 w6.heap.size #[.int .i64 k6, .int .u8 y6, .slice a6 len6 cap6] := by rw [hw7]; exact World.alloc_heap_new _ _
  have h7 : Val3 w7 w6.heap.size 0 [.int .i64 k6, .int .u8 y6, .slice a6 len6 cap6] := val3_in hc rfl
  obtain ⟨bab, hbab⟩ : ∃ bab, bab = w6.heap.size := ⟨_, rfl⟩
  rw [← hbab] at h7
  have hlt : bab < w7.heap.size := by rw [hbab]; exact lt_of_block hc
  have hat : Vl.at w7 (Vl.mk 3 0 [(Vl.mk 2 97 []), (Vl.mk 2 98 [])]) [.int .i64 k6, .int .u8 y6, .slice a6 len6 cap6] := Vl.at_below hal (Nat.le_refl _) _ _ (Vl.at_below (Below.refl _ _) (Nat.le_refl _) _ _ A6.out)
  have ALLbab := Lib.hid (fun (w' : World) (h : Below w7.heap.size w7 w') => And.intro (h7.below hlt h) (Vl.at_below h (Nat.le_refl _) _ _ hat))
  have H7 := Lib.hid hal
  clear hal hc h7 hlt hat
  go_upto_region 5 with fail
  rw [← hw7]
  rw [← hbab]
  clear hw7 hbab
  have HL5 := Lib.hid (ALLbab.out _ (Below.refl _ _)).1
  go_wp2_with (first
    | (refine wpList_load_val rfl _ rfl bab 0 _ rfl HL5.out ?_)
    | fail)
  refine (right_walk (ALLbab.out _ (Below.refl _ _)).2).mono ?_
  rintro e w8 ⟨z8, rfl, hat8, hb'⟩
  obtain ⟨k8, y8, a8, len8, cap8, rfl⟩ := at_lit hat8
  have H8 := Lib.hid hb'
  have A8 := Lib.hid hat8
  clear hb' hat8
  clear HL5
  obtain ⟨w9, hw9⟩ : ∃ w9, w9 = w8.alloc (.cells #[.int .i64 k8, .int .u8 y8, .slice a8 len8 cap8] 25) := ⟨_, rfl⟩
  have hb' : Below w8.heap.size w8 w9 := by rw [hw9]; exact K.alloc_below _ _
  have H9 := Lib.hid hb'
  clear hb'
  have L9 : Hid (ListAt w9 [(Vl.mk 5 0 [(Vl.mk 3 0 [(Vl.mk 2 97 []), (Vl.mk 2 98 [])])])] (.slice (some ⟨w8.heap.size, 0, none⟩) 1 1)) := Lib.hid (by
    rw [hw9]
    refine vals_lit w8 [((Vl.mk 5 0 [(Vl.mk 3 0 [(Vl.mk 2 97 []), (Vl.mk 2 98 [])])]), [.int .i64 k8, .int .u8 y8, .slice a8 len8 cap8])] ?_ _ rfl (by show 1 ≤ maxLen; decide)
    intro p hp
    simp only [List.mem_cons, List.not_mem_nil, or_false] at hp
    rcases hp with rfl
    · exact (Vl.at_below (Below.refl _ _) (Nat.le_refl _) _ _ A8.out))
  have A9 : Hid (Vl.at w9 (Vl.mk 6 0 [(Vl.mk 5 0 [(Vl.mk 3 0 [(Vl.mk 2 97 []), (Vl.mk 2 98 [])])])]) [.int .i64 6, .int .u8 0, .slice (some ⟨w8.heap.size, 0, none⟩) 1 1]) := Lib.hid (at_of_list L9.out (k := 6) (z := 0) rfl (by decide))
  obtain ⟨w10, hw10⟩ : ∃ w10, w10 = w9.alloc (.cells #[.int .i64 6, .int .u8 0, .slice (some ⟨w8.heap.size, 0, none⟩) 1 1] 25) := ⟨_, rfl⟩
  have hal : Below w9.heap.size w9 w10 := by rw [hw10]; exact K.alloc_below _ _
  have hc : ValIn w10 w9.heap.size #[.int .i64 6, .int .u8 0, .slice (some ⟨w8.heap.size, 0, none⟩) 1 1] := by rw [hw10]; exact World.alloc_heap_new _ _
  have h7 : Val3 w10 w9.heap.size 0 [.int .i64 6, .int .u8 0, .slice (some ⟨w8.heap.size, 0, none⟩) 1 1] := val3_in hc rfl
  obtain ⟨ba, hba⟩ : ∃ ba, ba = w9.heap.size := ⟨_, rfl⟩
  rw [← hba] at h7
  have hlt : ba < w10.heap.size := by rw [hba]; exact lt_of_block hc
  have hat : Vl.at w10 (Vl.mk 6 0 [(Vl.mk 5 0 [(Vl.mk 3 0 [(Vl.mk 2 97 []), (Vl.mk 2 98 [])])])]) [.int .i64 6, .int .u8 0, .slice (some ⟨w8.heap.size, 0, none⟩) 1 1] := Vl.at_below hal (Nat.le_refl _) _ _ (Vl.at_below (Below.refl _ _) (Nat.le_refl _) _ _ A9.out)
  have ALLba := Lib.hid (fun (w' : World) (h : Below w10.heap.size w10 w') => And.intro (h7.below hlt h) (Vl.at_below h (Nat.le_refl _) _ _ hat))
  have H10 := Lib.hid hal
  clear hal hc h7 hlt hat
  rw [show w9.heap.size = w8.heap.size + 1 from by rw [hw9]; simp] at hba
  go_upto_region 6 with fail
  rw [← hw9]
  rw [← hw10]
  rw [← hba]
  clear hw9 hw10 hba
  go_wp2_with fail
  refine (byt_walk 97 (by decide) w10).mono ?_
  rintro e w11 ⟨z11, rfl, hat11, hb'⟩
  obtain ⟨k11, y11, a11, len11, cap11, rfl⟩ := at_lit hat11
  have H11 := Lib.hid hb'
  have A11 := Lib.hid hat11
  clear hb' hat11
  go_wp2_with fail
  refine (left_walk (Vl.at_below (Below.refl _ _) (Nat.le_refl _) _ _ A11.out)).mono ?_
  rintro e w12 ⟨z12, rfl, hat12, hb'⟩
  obtain ⟨k12, y12, a12, len12, cap12, rfl⟩ := at_lit hat12
  have H12 := Lib.hid hb'
  have A12 := Lib.hid hat12
  clear hb' hat12
  go_wp2_with fail
  refine (byt_walk 98 (by decide) w12).mono ?_
  rintro e w13 ⟨z13, rfl, hat13, hb'⟩
  obtain ⟨k13, y13, a13, len13, cap13, rfl⟩ := at_lit hat13
  have H13 := Lib.hid hb'
  have A13 := Lib.hid hat13
  clear hb' hat13
  go_wp2_with fail
  refine (left_walk (Vl.at_below (Below.refl _ _) (Nat.le_refl _) _ _ A13.out)).mono ?_
  rintro e w14 ⟨z14, rfl, hat14, hb'⟩
  obtain ⟨k14, y14, a14, len14, cap14, rfl⟩ := at_lit hat14
  have H14 := Lib.hid hb'
  have A14 := Lib.hid hat14
  clear hb' hat14
  obtain ⟨w15, hw15⟩ : ∃ w15, w15 = w14.alloc (.cells #[.int .i64 k12, .int .u8 y12, .slice a12 len12 cap12, .int .i64 k14, .int .u8 y14, .slice a14 len14 cap14] 25) := ⟨_, rfl⟩
  have hb' : Below w14.heap.size w14 w15 := by rw [hw15]; exact K.alloc_below _ _
  have H15 := Lib.hid hb'
  clear hb'
  have L15 : Hid (ListAt w15 [(Vl.mk 4 0 [(Vl.mk 2 97 [])]), (Vl.mk 4 0 [(Vl.mk 2 98 [])])] (.slice (some ⟨w14.heap.size, 0, none⟩) 2 2)) := Lib.hid (by
    rw [hw15]
    refine vals_lit w14 [((Vl.mk 4 0 [(Vl.mk 2 97 [])]), [.int .i64 k12, .int .u8 y12, .slice a12 len12 cap12]), ((Vl.mk 4 0 [(Vl.mk 2 98 [])]), [.int .i64 k14, .int .u8 y14, .slice a14 len14 cap14])] ?_ _ rfl (by show 2 ≤ maxLen; decide)
    intro p hp
    simp only [List.mem_cons, List.not_mem_nil, or_false] at hp
    rcases hp with rfl | rfl
    · exact (Vl.at_below (bt H13.out H14.out) (Nat.le_refl _) _ _ A12.out)
    · exact (Vl.at_below (Below.refl _ _) (Nat.le_refl _) _ _ A14.out))
  have A15 : Hid (Vl.at w15 (Vl.mk 6 0 [(Vl.mk 4 0 [(Vl.mk 2 97 [])]), (Vl.mk 4 0 [(Vl.mk 2 98 [])])]) [.int .i64 6, .int .u8 0, .slice (some ⟨w14.heap.size, 0, none⟩) 2 2]) := Lib.hid (at_of_list L15.out (k := 6) (z := 0) rfl (by decide))
  obtain ⟨w16, hw16⟩ : ∃ w16, w16 = w15.alloc (.cells #[.int .i64 6, .int .u8 0, .slice (some ⟨w14.heap.size, 0, none⟩) 2 2] 25) := ⟨_, rfl⟩
  have hal : Below w15.heap.size w15 w16 := by rw [hw16]; exact K.alloc_below _ _
  have hc : ValIn w16 w15.heap.size #[.int .i64 6, .int .u8 0, .slice (some ⟨w14.heap.size, 0, none⟩) 2 2] := by rw [hw16]; exact World.alloc_heap_new _ _
  have h7 : Val3 w16 w15.heap.size 0 [.int .i64 6, .int .u8 0, .slice (some ⟨w14.heap.size, 0, none⟩) 2 2] := val3_in hc rfl
  obtain ⟨bb, hbb⟩ : ∃ bb, bb = w15.heap.size := ⟨_, rfl⟩
  rw [← hbb] at h7
  have hlt : bb < w16.heap.size := by rw [hbb]; exact lt_of_block hc
  have hat : Vl.at w16 (Vl.mk 6 0 [(Vl.mk 4 0 [(Vl.mk 2 97 [])]), (Vl.mk 4 0 [(Vl.mk 2 98 [])])]) [.int .i64 6, .int .u8 0, .slice (some ⟨w14.heap.size, 0, none⟩) 2 2] := Vl.at_below hal (Nat.le_refl _) _ _ (Vl.at_below (Below.refl _ _) (Nat.le_refl _) _ _ A15.out)
  have ALLbb := Lib.hid (fun (w' : World) (h : Below w16.heap.size w16 w') => And.intro (h7.below hlt h) (Vl.at_below h (Nat.le_refl _) _ _ hat))
  have H16 := Lib.hid hal
  clear hal hc h7 hlt hat
  rw [show w15.heap.size = w14.heap.size + 1 from by rw [hw15]; simp] at hbb
  go_upto_region 7 with fail
  rw [← hw15]
  rw [← hw16]
  rw [← hbb]
  clear hw15 hw16 hbb
  go_wp2_with fail
  refine (byt_walk 120 (by decide) w16).mono ?_
  rintro e w17 ⟨z17, rfl, hat17, hb'⟩
  obtain ⟨k17, y17, a17, len17, cap17, rfl⟩ := at_lit hat17
  have H17 := Lib.hid hb'
  have A17 := Lib.hid hat17
  clear hb' hat17
  go_wp2_with fail
  refine (left_walk (Vl.at_below (Below.refl _ _) (Nat.le_refl _) _ _ A17.out)).mono ?_
  rintro e w18 ⟨z18, rfl, hat18, hb'⟩
  obtain ⟨k18, y18, a18, len18, cap18, rfl⟩ := at_lit hat18
  have H18 := Lib.hid hb'
  have A18 := Lib.hid hat18
  clear hb' hat18
  go_wp2_with fail
  refine (byt_walk 120 (by decide) w18).mono ?_
  rintro e w19 ⟨z19, rfl, hat19, hb'⟩
  obtain ⟨k19, y19, a19, len19, cap19, rfl⟩ := at_lit hat19
  have H19 := Lib.hid hb'
  have A19 := Lib.hid hat19
  clear hb' hat19
  go_wp2_with fail
  refine (right_walk (Vl.at_below (Below.refl _ _) (Nat.le_refl _) _ _ A19.out)).mono ?_
  rintro e w20 ⟨z20, rfl, hat20, hb'⟩
  obtain ⟨k20, y20, a20, len20, cap20, rfl⟩ := at_lit hat20
  have H20 := Lib.hid hb'
  have A20 := Lib.hid hat20
  clear hb' hat20
  go_wp2_with fail
  refine (byt_walk 120 (by decide) w20).mono ?_
  rintro e w21 ⟨z21, rfl, hat21, hb'⟩
  obtain ⟨k21, y21, a21, len21, cap21, rfl⟩ := at_lit hat21
  have H21 := Lib.hid hb'
  have A21 := Lib.hid hat21
  clear hb' hat21
  go_wp2_with fail
  refine (left_walk (Vl.at_below (Below.refl _ _) (Nat.le_refl _) _ _ A21.out)).mono ?_
  rintro e w22 ⟨z22, rfl, hat22, hb'⟩
  obtain ⟨k22, y22, a22, len22, cap22, rfl⟩ := at_lit hat22
  have H22 := Lib.hid hb'
  have A22 := Lib.hid hat22
  clear hb' hat22
  obtain ⟨w23, hw23⟩ : ∃ w23, w23 = w22.alloc (.cells #[.int .i64 k18, .int .u8 y18, .slice a18 len18 cap18, .int .i64 k20, .int .u8 y20, .slice a20 len20 cap20, .int .i64 k22, .int .u8 y22, .slice a22 len22 cap22] 25) := ⟨_, rfl⟩
  have hb' : Below w22.heap.size w22 w23 := by rw [hw23]; exact K.alloc_below _ _
  have H23 := Lib.hid hb'
  clear hb'
  have L23 : Hid (ListAt w23 [(Vl.mk 4 0 [(Vl.mk 2 120 [])]), (Vl.mk 5 0 [(Vl.mk 2 120 [])]), (Vl.mk 4 0 [(Vl.mk 2 120 [])])] (.slice (some ⟨w22.heap.size, 0, none⟩) 3 3)) := Lib.hid (by
    rw [hw23]
    refine vals_lit w22 [((Vl.mk 4 0 [(Vl.mk 2 120 [])]), [.int .i64 k18, .int .u8 y18, .slice a18 len18 cap18]), ((Vl.mk 5 0 [(Vl.mk 2 120 [])]), [.int .i64 k20, .int .u8 y20, .slice a20 len20 cap20]), ((Vl.mk 4 0 [(Vl.mk 2 120 [])]), [.int .i64 k22, .int .u8 y22, .slice a22 len22 cap22])] ?_ _ rfl (by show 3 ≤ maxLen; decide)
    intro p hp
    simp only [List.mem_cons, List.not_mem_nil, or_false] at hp
    rcases hp with rfl | rfl | rfl
    · exact (Vl.at_below (bt H19.out (bt H20.out (bt H21.out H22.out))) (Nat.le_refl _) _ _ A18.out)
    · exact (Vl.at_below (bt H21.out H22.out) (Nat.le_refl _) _ _ A20.out)
    · exact (Vl.at_below (Below.refl _ _) (Nat.le_refl _) _ _ A22.out))
  go_upto_region 8 with fail
  rw [← hw23]
  clear hw23
  go_wp2_with fail
  refine (best_eq (i := 0) L23.out (by decide +kernel)).mono ?_
  rintro e w24 ⟨rfl, hb'⟩
  have H24 := Lib.hid hb'
  clear hb'
  go_wp2_with fail
  refine (best_empty _ _ _).mono ?_
  rintro e w25 ⟨rfl, hb'⟩
  have H25 := Lib.hid hb'
  clear hb'
  have BX3 := Lib.hid (fun (w' : World) (h : Below w25.heap.size w25 w') => ALLba.out w' (bt (bt H11.out (bt H12.out (bt H13.out (bt H14.out (bt H15.out (bt H16.out (bt H17.out (bt H18.out (bt H19.out (bt H20.out (bt H21.out (bt H22.out (bt H23.out (bt H24.out H25.out)))))))))))))) h))
  have BX4 := Lib.hid (fun (w' : World) (h : Below w25.heap.size w25 w') => ALLbb.out w' (bt (bt H17.out (bt H18.out (bt H19.out (bt H20.out (bt H21.out (bt H22.out (bt H23.out (bt H24.out H25.out)))))))) h))
  go_upto_region 10 with fail
  go_cut [10, 11] from 44 to 53 (fun v10 v11 wx => v10 = .int .i64 1 ∧ v11 = .bool true ∧ Below w25.heap.size w25 wx)
  case first =>
   rename_i J K' hR hMet
   refine wp_region_guards (factAt (kF10 w25.heap.size)) (W0 := w25) (by kernel_rfl) (by kernel_rfl) (by kernel_rfl) (Below.refl _ _) (fun i v w w' h hk => factAt_stable (kF10_stable _) i v w w' h hk) [] (by kernel_rfl) ?hgu ?hop ?hend
   case hgu =>
     intro j hj v w h
     simp at hj
   case hop =>
     refine AllG.get0 ?_
     refine AllG.cons (k' := 1) rfl ?_ ?_
     · intro a' w' hB hk hin KK hK
       unfold Oper.wp execOp
       go_simp
       refine (byt_walk 120 (by decide) w').mono ?_
       rintro e wn ⟨zz, rfl, hat, hbn⟩
       exact hK _ _ (hB.trans (hbn.mono hB.size)) (KeepsC.of_below hbn) (fact_put (P := isVal (Vl.mk 2 120 [])) rfl ⟨zz, rfl, hat⟩)
     refine AllG.cons (k' := 2) rfl ?_ ?_
     · intro a' w' hB hk hin KK hK
       obtain ⟨v1, e1, q1⟩ := hin 0 _ 45 rfl rfl ⟨{ on := 0, ground := .data }, by simp, rfl, rfl⟩
       have q1 := fact_get (P := isVal (Vl.mk 2 120 [])) rfl q1
       obtain ⟨zs1, r1, hat1⟩ := q1
       subst r1
       unfold Oper.wp execOp
       go_simp
       refine (right_walk hat1).mono ?_
       rintro e wn ⟨zz, rfl, hat, hbn⟩
       exact hK _ _ (hB.trans (hbn.mono hB.size)) (KeepsC.of_below hbn) (fact_put (P := isVal (Vl.mk 5 0 [(Vl.mk 2 120 [])])) rfl ⟨zz, rfl, hat⟩)
     refine AllG.cons (k' := 3) rfl ?_ ?_
     · intro a' w' hB hk hin KK hK
       refine wp_load_valK _ rfl ba 0 _ (eval_tmp (by rw [hk 3 (by kernel_rfl)]; rfl)) (BX3.out _ hB).1 ?_
       exact hK _ _ hB (KeepsC.of_below (Below.refl _ _)) (fact_put (P := isVal (Vl.mk 6 0 [(Vl.mk 5 0 [(Vl.mk 3 0 [(Vl.mk 2 97 []), (Vl.mk 2 98 [])])])])) rfl ⟨_, rfl, (BX3.out _ hB).2⟩)
     refine AllG.cons (k' := 4) rfl ?_ ?_
     · intro a' w' hB hk hin KK hK
       refine wp_load_valK _ rfl bb 0 _ (eval_tmp (by rw [hk 4 (by kernel_rfl)]; rfl)) (BX4.out _ hB).1 ?_
       exact hK _ _ hB (KeepsC.of_below (Below.refl _ _)) (fact_put (P := isVal (Vl.mk 6 0 [(Vl.mk 4 0 [(Vl.mk 2 97 [])]), (Vl.mk 4 0 [(Vl.mk 2 98 [])])])) rfl ⟨_, rfl, (BX4.out _ hB).2⟩)
     refine AllG.cons (k' := 5) rfl ?_ ?_
     · intro a' w' hB hk hin KK hK
       refine wp_load_valK _ rfl ba 0 _ (eval_tmp (by rw [hk 3 (by kernel_rfl)]; rfl)) (BX3.out _ hB).1 ?_
       exact hK _ _ hB (KeepsC.of_below (Below.refl _ _)) (fact_put (P := isVal (Vl.mk 6 0 [(Vl.mk 5 0 [(Vl.mk 3 0 [(Vl.mk 2 97 []), (Vl.mk 2 98 [])])])])) rfl ⟨_, rfl, (BX3.out _ hB).2⟩)
     refine AllG.cons (k' := 6) rfl ?_ ?_
     · intro a' w' hB hk hin KK hK
       obtain ⟨v2, e2, q2⟩ := hin 1 _ 46 rfl rfl ⟨{ on := 1, ground := .data }, by simp, rfl, rfl⟩
       have q2 := fact_get (P := isVal (Vl.mk 5 0 [(Vl.mk 2 120 [])])) rfl q2
       obtain ⟨zs2, r2, hat2⟩ := q2
       subst r2
       have ha2 := at_lit hat2
       obtain ⟨k2, z2, a2, len2, cap2, rfl⟩ := ha2
       obtain ⟨v3, e3, q3⟩ := hin 2 _ 47 rfl rfl ⟨{ on := 2, ground := .data }, by simp, rfl, rfl⟩
       have q3 := fact_get (P := isVal (Vl.mk 6 0 [(Vl.mk 5 0 [(Vl.mk 3 0 [(Vl.mk 2 97 []), (Vl.mk 2 98 [])])])])) rfl q3
       obtain ⟨zs3, r3, hat3⟩ := q3
       subst r3
       have ha3 := at_lit hat3
       obtain ⟨k3, z3, a3, len3, cap3, rfl⟩ := ha3
       obtain ⟨v4, e4, q4⟩ := hin 3 _ 48 rfl rfl ⟨{ on := 3, ground := .data }, by simp, rfl, rfl⟩
       have q4 := fact_get (P := isVal (Vl.mk 6 0 [(Vl.mk 4 0 [(Vl.mk 2 97 [])]), (Vl.mk 4 0 [(Vl.mk 2 98 [])])])) rfl q4
       obtain ⟨zs4, r4, hat4⟩ := q4
       subst r4
       have ha4 := at_lit hat4
       obtain ⟨k4, z4, a4, len4, cap4, rfl⟩ := ha4
       obtain ⟨v5, e5, q5⟩ := hin 4 _ 49 rfl rfl ⟨{ on := 4, ground := .data }, by simp, rfl, rfl⟩
       have q5 := fact_get (P := isVal (Vl.mk 6 0 [(Vl.mk 5 0 [(Vl.mk 3 0 [(Vl.mk 2 97 []), (Vl.mk 2 98 [])])])])) rfl q5
       obtain ⟨zs5, r5, hat5⟩ := q5
       subst r5
       have ha5 := at_lit hat5
       obtain ⟨k5, z5, a5, len5, cap5, rfl⟩ := ha5
       have hv := fun cs hc => vals_lit w' [((Vl.mk 5 0 [(Vl.mk 2 120 [])]), [.int .i64 k2, .int .u8 z2, .slice a2 len2 cap2]), ((Vl.mk 6 0 [(Vl.mk 5 0 [(Vl.mk 3 0 [(Vl.mk 2 97 []), (Vl.mk 2 98 [])])])]), [.int .i64 k3, .int .u8 z3, .slice a3 len3 cap3]), ((Vl.mk 6 0 [(Vl.mk 4 0 [(Vl.mk 2 97 [])]), (Vl.mk 4 0 [(Vl.mk 2 98 [])])]), [.int .i64 k4, .int .u8 z4, .slice a4 len4 cap4]), ((Vl.mk 6 0 [(Vl.mk 5 0 [(Vl.mk 3 0 [(Vl.mk 2 97 []), (Vl.mk 2 98 [])])])]), [.int .i64 k5, .int .u8 z5, .slice a5 len5 cap5])] (by intro p hp; simp only [List.mem_cons, List.not_mem_nil, or_false] at hp; rcases hp with rfl | rfl | rfl | rfl <;> assumption) cs hc (by show 4 ≤ maxLen; decide)
       unfold Oper.wp execOp
       go_simp
       exact hK _ _ (hB.alloc hB.size _) (KeepsC.of_below ((Below.refl _ _).alloc (Nat.le_refl _) _)) (fact_put (P := isVals [(Vl.mk 5 0 [(Vl.mk 2 120 [])]), (Vl.mk 6 0 [(Vl.mk 5 0 [(Vl.mk 3 0 [(Vl.mk 2 97 []), (Vl.mk 2 98 [])])])]), (Vl.mk 6 0 [(Vl.mk 4 0 [(Vl.mk 2 97 [])]), (Vl.mk 4 0 [(Vl.mk 2 98 [])])]), (Vl.mk 6 0 [(Vl.mk 5 0 [(Vl.mk 3 0 [(Vl.mk 2 97 []), (Vl.mk 2 98 [])])])])]) rfl (hv _ rfl))
     refine AllG.cons (k' := 7) rfl ?_ ?_
     · intro a' w' hB hk hin KK hK
       obtain ⟨v6, e6, q6⟩ := hin 5 _ 50 rfl rfl ⟨{ on := 5, ground := .data }, by simp, rfl, rfl⟩
       have q6 := fact_get (P := isVals [(Vl.mk 5 0 [(Vl.mk 2 120 [])]), (Vl.mk 6 0 [(Vl.mk 5 0 [(Vl.mk 3 0 [(Vl.mk 2 97 []), (Vl.mk 2 98 [])])])]), (Vl.mk 6 0 [(Vl.mk 4 0 [(Vl.mk 2 97 [])]), (Vl.mk 4 0 [(Vl.mk 2 98 [])])]), (Vl.mk 6 0 [(Vl.mk 5 0 [(Vl.mk 3 0 [(Vl.mk 2 97 []), (Vl.mk 2 98 [])])])])]) rfl q6
       have hl6 := q6
       obtain ⟨a6, cap6, r6, _⟩ := q6
       subst r6
       unfold Oper.wp execOp
       go_simp
       refine (best_eq (i := 1) hl6 (by decide +kernel)).mono ?_
       rintro e wn ⟨rfl, hbn⟩
       exact hK _ _ (hB.trans (hbn.mono hB.size)) (KeepsC.of_below hbn) (fact_put (P := isEq (.tuple #[.int .i64 1, .bool true])) rfl rfl)
     refine AllG.cons (k' := 8) rfl ?_ ?_
     · intro a' w' hB hk hin KK hK
       obtain ⟨v7, e7, q7⟩ := hin 6 _ 51 rfl rfl ⟨{ on := 6, ground := .data }, by simp, rfl, rfl⟩
       have q7 := fact_get (P := isEq (.tuple #[.int .i64 1, .bool true])) rfl q7
       have q7' : v7 = .tuple #[.int .i64 1, .bool true] := q7
       subst q7'
       unfold Oper.wp execOp
       go_simp
       exact hK _ _ hB (KeepsC.of_below (Below.refl _ _)) (fact_put (P := isEq (.tuple #[.int .i64 1, .bool true])) rfl rfl)
     refine AllG.cons (k' := 9) rfl ?_ ?_
     · intro a' w' hB hk hin KK hK
       obtain ⟨v8, e8, q8⟩ := hin 7 _ 44 rfl rfl ⟨{ on := 7, ground := .data }, by simp, rfl, rfl⟩
       have q8 := fact_get (P := isEq (.tuple #[.int .i64 1, .bool true])) rfl q8
       have q8' : v8 = .tuple #[.int .i64 1, .bool true] := q8
       subst q8'
       unfold Oper.wp execOp
       go_simp
       exact hK _ _ hB (KeepsC.of_below (Below.refl _ _)) (fact_put (P := isEq (.int .i64 1)) rfl rfl)
     refine AllG.cons (k' := 10) rfl ?_ ?_
     · intro a' w' hB hk hin KK hK
       obtain ⟨v9, e9, q9⟩ := hin 7 _ 44 rfl rfl ⟨{ on := 7, ground := .data }, by simp, rfl, rfl⟩
       have q9 := fact_get (P := isEq (.tuple #[.int .i64 1, .bool true])) rfl q9
       have q9' : v9 = .tuple #[.int .i64 1, .bool true] := q9
       subst q9'
       unfold Oper.wp execOp
       go_simp
       exact hK _ _ hB (KeepsC.of_below (Below.refl _ _)) (fact_put (P := isEq (.bool true)) rfl rfl)
     refine AllG.cons (k' := 11) rfl ?_ ?_
     · intro a' w' hB hk hin KK hK
       obtain ⟨v10, e10, q10⟩ := hin 8 _ 52 rfl rfl ⟨{ on := 8, ground := .data }, by simp, rfl, rfl⟩
       have q10 := fact_get (P := isEq (.int .i64 1)) rfl q10
       have q10' : v10 = .int .i64 1 := q10
       subst q10'
       unfold Oper.wp execOp
       go_simp
       exact hK _ _ hB (KeepsC.of_below (Below.refl _ _)) (fact_put (P := isEq (.int .i64 1)) rfl rfl)
     refine AllG.cons (k' := 12) rfl ?_ ?_
     · intro a' w' hB hk hin KK hK
       obtain ⟨v11, e11, q11⟩ := hin 9 _ 53 rfl rfl ⟨{ on := 9, ground := .data }, by simp, rfl, rfl⟩
       have q11 := fact_get (P := isEq (.bool true)) rfl q11
       have q11' : v11 = .bool true := q11
       subst q11'
       unfold Oper.wp execOp
       go_simp
       exact hK _ _ hB (KeepsC.of_below (Below.refl _ _)) (fact_put (P := isEq (.bool true)) rfl rfl)
     exact AllG.nil
   case hend =>
    intro a' w' hB hdef hsz hk hvals
    obtain ⟨v0', hv0, hvt0⟩ := hvals 10 _ 10 rfl rfl
    obtain ⟨v1', hv1, hvt1⟩ := hvals 11 _ 11 rfl rfl
    have hvt0' : v0' = .int .i64 1 := fact_get (P := isEq (.int .i64 1)) rfl hvt0
    have hvt1' : v1' = .bool true := fact_get (P := isEq (.bool true)) rfl hvt1
    have hf0 : a'.tmps.getD 10 undef = v0' := by rw [Array.getD_eq_getD_getElem?, hv0]; rfl
    have hf1 : a'.tmps.getD 11 undef = v1' := by rw [Array.getD_eq_getD_getElem?, hv1]; rfl
    have heq := act_eq hdef hsz hk
    refine hMet a' w' (Met.intro (hR a' w' ?_))
    refine ⟨a'.tmps.getD 10 undef, a'.tmps.getD 11 undef, a'.tmps.getD 44 undef, a'.tmps.getD 45 undef, a'.tmps.getD 46 undef, a'.tmps.getD 47 undef, a'.tmps.getD 48 undef, a'.tmps.getD 49 undef, a'.tmps.getD 50 undef, a'.tmps.getD 51 undef, a'.tmps.getD 52 undef, a'.tmps.getD 53 undef, ⟨by rw [hf0]; exact hvt0', by rw [hf1]; exact hvt1', hB⟩, heq.trans ?_⟩
    kernel_rfl
  case rest =>
  obtain ⟨rfl, rfl, hBc⟩ := hcut
  obtain ⟨w26, rfl⟩ : ∃ w26, w26 = wc := ⟨_, rfl⟩
  have H26 := Lib.hid hBc
  clear hBc BX3 BX4
  have BX1 := Lib.hid (fun (w' : World) (h : Below w26.heap.size w26 w') => ALLbe.out w' (bt (bt H4.out (bt H5.out (bt H6.out (bt H7.out (bt H8.out (bt H9.out (bt H10.out (bt H11.out (bt H12.out (bt H13.out (bt H14.out (bt H15.out (bt H16.out (bt H17.out (bt H18.out (bt H19.out (bt H20.out (bt H21.out (bt H22.out (bt H23.out (bt H24.out (bt H25.out H26.out)))))))))))))))))))))) h))
  have BX2 := Lib.hid (fun (w' : World) (h : Below w26.heap.size w26 w') => ALLbab.out w' (bt (bt H8.out (bt H9.out (bt H10.out (bt H11.out (bt H12.out (bt H13.out (bt H14.out (bt H15.out (bt H16.out (bt H17.out (bt H18.out (bt H19.out (bt H20.out (bt H21.out (bt H22.out (bt H23.out (bt H24.out (bt H25.out H26.out)))))))))))))))))) h))
  have BX3 := Lib.hid (fun (w' : World) (h : Below w26.heap.size w26 w') => ALLba.out w' (bt (bt H11.out (bt H12.out (bt H13.out (bt H14.out (bt H15.out (bt H16.out (bt H17.out (bt H18.out (bt H19.out (bt H20.out (bt H21.out (bt H22.out (bt H23.out (bt H24.out (bt H25.out H26.out))))))))))))))) h))
  have BX4 := Lib.hid (fun (w' : World) (h : Below w26.heap.size w26 w') => ALLbb.out w' (bt (bt H17.out (bt H18.out (bt H19.out (bt H20.out (bt H21.out (bt H22.out (bt H23.out (bt H24.out (bt H25.out H26.out))))))))) h))
  go_upto_region 11 with fail
  go_cut [0] from 54 to 125 (fun v0 wx => v0 = .bool true ∧ Below w26.heap.size w26 wx)
  case first =>
   rename_i J K' hR hMet
   refine wp_region_guards (factAt (kF11 w26.heap.size)) (W0 := w26) (by kernel_rfl) (by kernel_rfl) (by kernel_rfl) (Below.refl _ _) (fun i v w w' h hk => factAt_stable (kF11_stable _) i v w w' h hk) [4, 10, 20, 28, 34, 40, 46, 54, 57, 61, 65, 68] (by kernel_rfl) ?hgu ?hop ?hend
   case hgu =>
     intro j hj v w h
     simp only [List.mem_cons, List.not_mem_nil, or_false] at hj
     rcases hj with rfl | rfl | rfl | rfl | rfl | rfl | rfl | rfl | rfl | rfl | rfl | rfl
     · exact fact_get (P := isEq (.bool true)) rfl h
     · exact fact_get (P := isEq (.bool true)) rfl h
     · exact fact_get (P := isEq (.bool true)) rfl h
     · exact fact_get (P := isEq (.bool true)) rfl h
     · exact fact_get (P := isEq (.bool true)) rfl h
     · exact fact_get (P := isEq (.bool true)) rfl h
     · exact fact_get (P := isEq (.bool true)) rfl h
     · exact fact_get (P := isEq (.bool true)) rfl h
     · exact fact_get (P := isEq (.bool true)) rfl h
     · exact fact_get (P := isEq (.bool true)) rfl h
     · exact fact_get (P := isEq (.bool true)) rfl h
     · exact fact_get (P := isEq (.bool true)) rfl h
   case hop =>
     refine AllG.get0 ?_
     refine AllG.cons (k' := 1) rfl ?_ ?_
     · intro a' w' hB hk hin KK hK
       refine wp_load_valK _ rfl ba 0 _ (eval_tmp (by rw [hk 3 (by kernel_rfl)]; rfl)) (BX3.out _ hB).1 ?_
       exact hK _ _ hB (KeepsC.of_below (Below.refl _ _)) (fact_put (P := isVal (Vl.mk 6 0 [(Vl.mk 5 0 [(Vl.mk 3 0 [(Vl.mk 2 97 []), (Vl.mk 2 98 [])])])])) rfl ⟨_, rfl, (BX3.out _ hB).2⟩)
     refine AllG.cons (k' := 2) rfl ?_ ?_
     · intro a' w' hB hk hin KK hK
       refine wp_load_valK _ rfl bb 0 _ (eval_tmp (by rw [hk 4 (by kernel_rfl)]; rfl)) (BX4.out _ hB).1 ?_
       exact hK _ _ hB (KeepsC.of_below (Below.refl _ _)) (fact_put (P := isVal (Vl.mk 6 0 [(Vl.mk 4 0 [(Vl.mk 2 97 [])]), (Vl.mk 4 0 [(Vl.mk 2 98 [])])])) rfl ⟨_, rfl, (BX4.out _ hB).2⟩)
     refine AllG.cons (k' := 3) rfl ?_ ?_
     · intro a' w' hB hk hin KK hK
       obtain ⟨v1, e1, q1⟩ := hin 0 _ 54 rfl rfl ⟨{ on := 0, ground := .data }, by simp, rfl, rfl⟩
       have q1 := fact_get (P := isVal (Vl.mk 6 0 [(Vl.mk 5 0 [(Vl.mk 3 0 [(Vl.mk 2 97 []), (Vl.mk 2 98 [])])])])) rfl q1
       obtain ⟨zs1, r1, hat1⟩ := q1
       subst r1
       obtain ⟨v2, e2, q2⟩ := hin 1 _ 55 rfl rfl ⟨{ on := 1, ground := .data }, by simp, rfl, rfl⟩
       have q2 := fact_get (P := isVal (Vl.mk 6 0 [(Vl.mk 4 0 [(Vl.mk 2 97 [])]), (Vl.mk 4 0 [(Vl.mk 2 98 [])])])) rfl q2
       obtain ⟨zs2, r2, hat2⟩ := q2
       subst r2
       unfold Oper.wp execOp
       go_simp
       refine (cmp_eq (n := -1) hat1 hat2 (by decide +kernel)).mono ?_
       rintro e wn ⟨rfl, hbn⟩
       exact hK _ _ (hB.trans (hbn.mono hB.size)) (KeepsC.of_below hbn) (fact_put (P := isEq (.int .i64 (-1))) rfl rfl)
     refine AllG.cons (k' := 4) rfl ?_ ?_
     · intro a' w' hB hk hin KK hK
       obtain ⟨v3, e3, q3⟩ := hin 2 _ 56 rfl rfl ⟨{ on := 2, ground := .data }, by simp, rfl, rfl⟩
       have q3 := fact_get (P := isEq (.int .i64 (-1))) rfl q3
       have q3' : v3 = .int .i64 (-1) := q3
       subst q3'
       unfold Oper.wp execOp
       go_simp
       exact hK _ _ hB (KeepsC.of_below (Below.refl _ _)) (fact_put (P := isEq (.bool true)) rfl rfl)
     refine AllG.cons (k' := 5) rfl ?_ ?_
     · intro a' w' hB hk hin KK hK
       obtain ⟨v4, e4, q4⟩ := hin 3 _ 57 rfl rfl ⟨{ on := 3, ground := .data }, by simp, rfl, rfl⟩
       have q4 := fact_get (P := isEq (.bool true)) rfl q4
       have q4' : v4 = .bool true := q4
       subst q4'
       unfold Oper.wp execOp
       go_simp
       exact hK _ _ hB (KeepsC.of_below (Below.refl _ _)) (fact_put (P := isEq (.bool true)) rfl rfl)
     refine AllG.cons (k' := 6) rfl ?_ ?_
     · intro a' w' hB hk hin KK hK
       refine wp_load_valK _ rfl bb 0 _ (eval_tmp (by rw [hk 4 (by kernel_rfl)]; rfl)) (BX4.out _ hB).1 ?_
       exact hK _ _ hB (KeepsC.of_below (Below.refl _ _)) (fact_put (P := isVal (Vl.mk 6 0 [(Vl.mk 4 0 [(Vl.mk 2 97 [])]), (Vl.mk 4 0 [(Vl.mk 2 98 [])])])) rfl ⟨_, rfl, (BX4.out _ hB).2⟩)
     refine AllG.cons (k' := 7) rfl ?_ ?_
     · intro a' w' hB hk hin KK hK
       refine wp_load_valK _ rfl ba 0 _ (eval_tmp (by rw [hk 3 (by kernel_rfl)]; rfl)) (BX3.out _ hB).1 ?_
       exact hK _ _ hB (KeepsC.of_below (Below.refl _ _)) (fact_put (P := isVal (Vl.mk 6 0 [(Vl.mk 5 0 [(Vl.mk 3 0 [(Vl.mk 2 97 []), (Vl.mk 2 98 [])])])])) rfl ⟨_, rfl, (BX3.out _ hB).2⟩)
     refine AllG.cons (k' := 8) rfl ?_ ?_
     · intro a' w' hB hk hin KK hK
       obtain ⟨v5, e5, q5⟩ := hin 5 _ 59 rfl rfl ⟨{ on := 5, ground := .data }, by simp, rfl, rfl⟩
       have q5 := fact_get (P := isVal (Vl.mk 6 0 [(Vl.mk 4 0 [(Vl.mk 2 97 [])]), (Vl.mk 4 0 [(Vl.mk 2 98 [])])])) rfl q5
       obtain ⟨zs5, r5, hat5⟩ := q5
       subst r5
       obtain ⟨v6, e6, q6⟩ := hin 6 _ 60 rfl rfl ⟨{ on := 6, ground := .data }, by simp, rfl, rfl⟩
       have q6 := fact_get (P := isVal (Vl.mk 6 0 [(Vl.mk 5 0 [(Vl.mk 3 0 [(Vl.mk 2 97 []), (Vl.mk 2 98 [])])])])) rfl q6
       obtain ⟨zs6, r6, hat6⟩ := q6
       subst r6
       unfold Oper.wp execOp
       go_simp
       refine (cmp_eq (n := 1) hat5 hat6 (by decide +kernel)).mono ?_
       rintro e wn ⟨rfl, hbn⟩
       exact hK _ _ (hB.trans (hbn.mono hB.size)) (KeepsC.of_below hbn) (fact_put (P := isEq (.int .i64 (1))) rfl rfl)
     refine AllG.cons (k' := 9) rfl ?_ ?_
     · intro a' w' hB hk hin KK hK
       obtain ⟨v7, e7, q7⟩ := hin 7 _ 61 rfl rfl ⟨{ on := 7, ground := .data }, by simp, rfl, rfl⟩
       have q7 := fact_get (P := isEq (.int .i64 (1))) rfl q7
       have q7' : v7 = .int .i64 (1) := q7
       subst q7'
       unfold Oper.wp execOp
       go_simp
       exact hK _ _ hB (KeepsC.of_below (Below.refl _ _)) (fact_put (P := isEq (.bool true)) rfl rfl)
     refine AllG.cons (k' := 10) rfl ?_ ?_
     · intro a' w' hB hk hin KK hK
       obtain ⟨v8, e8, q8⟩ := hin 4 _ 58 rfl rfl ⟨{ on := 4, ground := .data }, by simp, rfl, rfl⟩
       have q8 := fact_get (P := isEq (.bool true)) rfl q8
       have q8' : v8 = .bool true := q8
       subst q8'
       obtain ⟨v9, e9, q9⟩ := hin 8 _ 62 rfl rfl ⟨{ on := 8, ground := .data }, by simp, rfl, rfl⟩
       have q9 := fact_get (P := isEq (.bool true)) rfl q9
       have q9' : v9 = .bool true := q9
       subst q9'
       unfold Oper.wp execOp
       go_simp
       exact hK _ _ hB (KeepsC.of_below (Below.refl _ _)) (fact_put (P := isEq (.bool true)) rfl rfl)
     refine AllG.cons (k' := 11) rfl ?_ ?_
     · intro a' w' hB hk hin KK hK
       obtain ⟨v10, e10, q10⟩ := hin 9 _ 63 rfl rfl ⟨{ on := 9, ground := .data }, by simp, rfl, rfl⟩
       have q10 := fact_get (P := isEq (.bool true)) rfl q10
       have q10' : v10 = .bool true := q10
       subst q10'
       unfold Oper.wp execOp
       go_simp
       exact hK _ _ hB (KeepsC.of_below (Below.refl _ _)) (fact_put (P := isEq (.bool true)) rfl rfl)
     refine AllG.cons (k' := 12) rfl ?_ ?_
     · intro a' w' hB hk hin KK hK
       refine wp_load_valK _ rfl bab 0 _ (eval_tmp (by rw [hk 2 (by kernel_rfl)]; rfl)) (BX2.out _ hB).1 ?_
       exact hK _ _ hB (KeepsC.of_below (Below.refl _ _)) (fact_put (P := isVal (Vl.mk 3 0 [(Vl.mk 2 97 []), (Vl.mk 2 98 [])])) rfl ⟨_, rfl, (BX2.out _ hB).2⟩)
     refine AllG.cons (k' := 13) rfl ?_ ?_
     · intro a' w' hB hk hin KK hK
       refine wp_load_valK _ rfl be 0 _ (eval_tmp (by rw [hk 1 (by kernel_rfl)]; rfl)) (BX1.out _ hB).1 ?_
       exact hK _ _ hB (KeepsC.of_below (Below.refl _ _)) (fact_put (P := isVal (Vl.mk 1 0 [])) rfl ⟨_, rfl, (BX1.out _ hB).2⟩)
     refine AllG.cons (k' := 14) rfl ?_ ?_
     · intro a' w' hB hk hin KK hK
       obtain ⟨v11, e11, q11⟩ := hin 11 _ 65 rfl rfl ⟨{ on := 11, ground := .data }, by simp, rfl, rfl⟩
       have q11 := fact_get (P := isVal (Vl.mk 3 0 [(Vl.mk 2 97 []), (Vl.mk 2 98 [])])) rfl q11
       obtain ⟨zs11, r11, hat11⟩ := q11
       subst r11
       obtain ⟨v12, e12, q12⟩ := hin 12 _ 66 rfl rfl ⟨{ on := 12, ground := .data }, by simp, rfl, rfl⟩
       have q12 := fact_get (P := isVal (Vl.mk 1 0 [])) rfl q12
       obtain ⟨zs12, r12, hat12⟩ := q12
       subst r12
       unfold Oper.wp execOp
       go_simp
       refine (row_walk hat11 hat12).mono ?_
       rintro e wn ⟨zz, rfl, hat, hbn⟩
       exact hK _ _ (hB.trans (hbn.mono hB.size)) (KeepsC.of_below hbn) (fact_put (P := isVal (Vl.mk 3 0 [(Vl.mk 3 0 [(Vl.mk 2 97 []), (Vl.mk 2 98 [])]), (Vl.mk 1 0 [])])) rfl ⟨zz, rfl, hat⟩)
     refine AllG.cons (k' := 15) rfl ?_ ?_
     · intro a' w' hB hk hin KK hK
       unfold Oper.wp execOp
       go_simp
       refine (byt_walk 97 (by decide) w').mono ?_
       rintro e wn ⟨zz, rfl, hat, hbn⟩
       exact hK _ _ (hB.trans (hbn.mono hB.size)) (KeepsC.of_below hbn) (fact_put (P := isVal (Vl.mk 2 97 [])) rfl ⟨zz, rfl, hat⟩)
     refine AllG.cons (k' := 16) rfl ?_ ?_
     · intro a' w' hB hk hin KK hK
       unfold Oper.wp execOp
       go_simp
       refine (byt_walk 98 (by decide) w').mono ?_
       rintro e wn ⟨zz, rfl, hat, hbn⟩
       exact hK _ _ (hB.trans (hbn.mono hB.size)) (KeepsC.of_below hbn) (fact_put (P := isVal (Vl.mk 2 98 [])) rfl ⟨zz, rfl, hat⟩)
     refine AllG.cons (k' := 17) rfl ?_ ?_
     · intro a' w' hB hk hin KK hK
       obtain ⟨v13, e13, q13⟩ := hin 14 _ 68 rfl rfl ⟨{ on := 14, ground := .data }, by simp, rfl, rfl⟩
       have q13 := fact_get (P := isVal (Vl.mk 2 97 [])) rfl q13
       obtain ⟨zs13, r13, hat13⟩ := q13
       subst r13
       obtain ⟨v14, e14, q14⟩ := hin 15 _ 69 rfl rfl ⟨{ on := 15, ground := .data }, by simp, rfl, rfl⟩
       have q14 := fact_get (P := isVal (Vl.mk 2 98 [])) rfl q14
       obtain ⟨zs14, r14, hat14⟩ := q14
       subst r14
       unfold Oper.wp execOp
       go_simp
       refine (row_walk hat13 hat14).mono ?_
       rintro e wn ⟨zz, rfl, hat, hbn⟩
       exact hK _ _ (hB.trans (hbn.mono hB.size)) (KeepsC.of_below hbn) (fact_put (P := isVal (Vl.mk 3 0 [(Vl.mk 2 97 []), (Vl.mk 2 98 [])])) rfl ⟨zz, rfl, hat⟩)
     refine AllG.cons (k' := 18) rfl ?_ ?_
     · intro a' w' hB hk hin KK hK
       obtain ⟨v15, e15, q15⟩ := hin 13 _ 67 rfl rfl ⟨{ on := 13, ground := .data }, by simp, rfl, rfl⟩
       have q15 := fact_get (P := isVal (Vl.mk 3 0 [(Vl.mk 3 0 [(Vl.mk 2 97 []), (Vl.mk 2 98 [])]), (Vl.mk 1 0 [])])) rfl q15
       obtain ⟨zs15, r15, hat15⟩ := q15
       subst r15
       obtain ⟨v16, e16, q16⟩ := hin 16 _ 70 rfl rfl ⟨{ on := 16, ground := .data }, by simp, rfl, rfl⟩
       have q16 := fact_get (P := isVal (Vl.mk 3 0 [(Vl.mk 2 97 []), (Vl.mk 2 98 [])])) rfl q16
       obtain ⟨zs16, r16, hat16⟩ := q16
       subst r16
       unfold Oper.wp execOp
       go_simp
       refine (cmp_eq (n := -1) hat15 hat16 (by decide +kernel)).mono ?_
       rintro e wn ⟨rfl, hbn⟩
       exact hK _ _ (hB.trans (hbn.mono hB.size)) (KeepsC.of_below hbn) (fact_put (P := isEq (.int .i64 (-1))) rfl rfl)
     refine AllG.cons (k' := 19) rfl ?_ ?_
     · intro a' w' hB hk hin KK hK
       obtain ⟨v17, e17, q17⟩ := hin 17 _ 71 rfl rfl ⟨{ on := 17, ground := .data }, by simp, rfl, rfl⟩
       have q17 := fact_get (P := isEq (.int .i64 (-1))) rfl q17
       have q17' : v17 = .int .i64 (-1) := q17
       subst q17'
       unfold Oper.wp execOp
       go_simp
       exact hK _ _ hB (KeepsC.of_below (Below.refl _ _)) (fact_put (P := isEq (.bool true)) rfl rfl)
     refine AllG.cons (k' := 20) rfl ?_ ?_
     · intro a' w' hB hk hin KK hK
       obtain ⟨v18, e18, q18⟩ := hin 10 _ 64 rfl rfl ⟨{ on := 10, ground := .data }, by simp, rfl, rfl⟩
       have q18 := fact_get (P := isEq (.bool true)) rfl q18
       have q18' : v18 = .bool true := q18
       subst q18'
       obtain ⟨v19, e19, q19⟩ := hin 18 _ 72 rfl rfl ⟨{ on := 18, ground := .data }, by simp, rfl, rfl⟩
       have q19 := fact_get (P := isEq (.bool true)) rfl q19
       have q19' : v19 = .bool true := q19
       subst q19'
       unfold Oper.wp execOp
       go_simp
       exact hK _ _ hB (KeepsC.of_below (Below.refl _ _)) (fact_put (P := isEq (.bool true)) rfl rfl)
     refine AllG.cons (k' := 21) rfl ?_ ?_
     · intro a' w' hB hk hin KK hK
       obtain ⟨v20, e20, q20⟩ := hin 19 _ 73 rfl rfl ⟨{ on := 19, ground := .data }, by simp, rfl, rfl⟩
       have q20 := fact_get (P := isEq (.bool true)) rfl q20
       have q20' : v20 = .bool true := q20
       subst q20'
       unfold Oper.wp execOp
       go_simp
       exact hK _ _ hB (KeepsC.of_below (Below.refl _ _)) (fact_put (P := isEq (.bool true)) rfl rfl)
     refine AllG.cons (k' := 22) rfl ?_ ?_
     · intro a' w' hB hk hin KK hK
       unfold Oper.wp execOp
       go_simp
       refine (byt_walk 97 (by decide) w').mono ?_
       rintro e wn ⟨zz, rfl, hat, hbn⟩
       exact hK _ _ (hB.trans (hbn.mono hB.size)) (KeepsC.of_below hbn) (fact_put (P := isVal (Vl.mk 2 97 [])) rfl ⟨zz, rfl, hat⟩)
     refine AllG.cons (k' := 23) rfl ?_ ?_
     · intro a' w' hB hk hin KK hK
       obtain ⟨v21, e21, q21⟩ := hin 21 _ 75 rfl rfl ⟨{ on := 21, ground := .data }, by simp, rfl, rfl⟩
       have q21 := fact_get (P := isVal (Vl.mk 2 97 [])) rfl q21
       obtain ⟨zs21, r21, hat21⟩ := q21
       subst r21
       unfold Oper.wp execOp
       go_simp
       refine (left_walk hat21).mono ?_
       rintro e wn ⟨zz, rfl, hat, hbn⟩
       exact hK _ _ (hB.trans (hbn.mono hB.size)) (KeepsC.of_below hbn) (fact_put (P := isVal (Vl.mk 4 0 [(Vl.mk 2 97 [])])) rfl ⟨zz, rfl, hat⟩)
     refine AllG.cons (k' := 24) rfl ?_ ?_
     · intro a' w' hB hk hin KK hK
       unfold Oper.wp execOp
       go_simp
       refine (byt_walk 97 (by decide) w').mono ?_
       rintro e wn ⟨zz, rfl, hat, hbn⟩
       exact hK _ _ (hB.trans (hbn.mono hB.size)) (KeepsC.of_below hbn) (fact_put (P := isVal (Vl.mk 2 97 [])) rfl ⟨zz, rfl, hat⟩)
     refine AllG.cons (k' := 25) rfl ?_ ?_
     · intro a' w' hB hk hin KK hK
       obtain ⟨v22, e22, q22⟩ := hin 23 _ 77 rfl rfl ⟨{ on := 23, ground := .data }, by simp, rfl, rfl⟩
       have q22 := fact_get (P := isVal (Vl.mk 2 97 [])) rfl q22
       obtain ⟨zs22, r22, hat22⟩ := q22
       subst r22
       unfold Oper.wp execOp
       go_simp
       refine (right_walk hat22).mono ?_
       rintro e wn ⟨zz, rfl, hat, hbn⟩
       exact hK _ _ (hB.trans (hbn.mono hB.size)) (KeepsC.of_below hbn) (fact_put (P := isVal (Vl.mk 5 0 [(Vl.mk 2 97 [])])) rfl ⟨zz, rfl, hat⟩)
     refine AllG.cons (k' := 26) rfl ?_ ?_
     · intro a' w' hB hk hin KK hK
       obtain ⟨v23, e23, q23⟩ := hin 22 _ 76 rfl rfl ⟨{ on := 22, ground := .data }, by simp, rfl, rfl⟩
       have q23 := fact_get (P := isVal (Vl.mk 4 0 [(Vl.mk 2 97 [])])) rfl q23
       obtain ⟨zs23, r23, hat23⟩ := q23
       subst r23
       obtain ⟨v24, e24, q24⟩ := hin 24 _ 78 rfl rfl ⟨{ on := 24, ground := .data }, by simp, rfl, rfl⟩
       have q24 := fact_get (P := isVal (Vl.mk 5 0 [(Vl.mk 2 97 [])])) rfl q24
       obtain ⟨zs24, r24, hat24⟩ := q24
       subst r24
       unfold Oper.wp execOp
       go_simp
       refine (cmp_eq (n := -1) hat23 hat24 (by decide +kernel)).mono ?_
       rintro e wn ⟨rfl, hbn⟩
       exact hK _ _ (hB.trans (hbn.mono hB.size)) (KeepsC.of_below hbn) (fact_put (P := isEq (.int .i64 (-1))) rfl rfl)
     refine AllG.cons (k' := 27) rfl ?_ ?_
     · intro a' w' hB hk hin KK hK
       obtain ⟨v25, e25, q25⟩ := hin 25 _ 79 rfl rfl ⟨{ on := 25, ground := .data }, by simp, rfl, rfl⟩
       have q25 := fact_get (P := isEq (.int .i64 (-1))) rfl q25
       have q25' : v25 = .int .i64 (-1) := q25
       subst q25'
       unfold Oper.wp execOp
       go_simp
       exact hK _ _ hB (KeepsC.of_below (Below.refl _ _)) (fact_put (P := isEq (.bool true)) rfl rfl)
     refine AllG.cons (k' := 28) rfl ?_ ?_
     · intro a' w' hB hk hin KK hK
       obtain ⟨v26, e26, q26⟩ := hin 20 _ 74 rfl rfl ⟨{ on := 20, ground := .data }, by simp, rfl, rfl⟩
       have q26 := fact_get (P := isEq (.bool true)) rfl q26
       have q26' : v26 = .bool true := q26
       subst q26'
       obtain ⟨v27, e27, q27⟩ := hin 26 _ 80 rfl rfl ⟨{ on := 26, ground := .data }, by simp, rfl, rfl⟩
       have q27 := fact_get (P := isEq (.bool true)) rfl q27
       have q27' : v27 = .bool true := q27
       subst q27'
       unfold Oper.wp execOp
       go_simp
       exact hK _ _ hB (KeepsC.of_below (Below.refl _ _)) (fact_put (P := isEq (.bool true)) rfl rfl)
     refine AllG.cons (k' := 29) rfl ?_ ?_
     · intro a' w' hB hk hin KK hK
       obtain ⟨v28, e28, q28⟩ := hin 27 _ 81 rfl rfl ⟨{ on := 27, ground := .data }, by simp, rfl, rfl⟩
       have q28 := fact_get (P := isEq (.bool true)) rfl q28
       have q28' : v28 = .bool true := q28
       subst q28'
       unfold Oper.wp execOp
       go_simp
       exact hK _ _ hB (KeepsC.of_below (Below.refl _ _)) (fact_put (P := isEq (.bool true)) rfl rfl)
     refine AllG.cons (k' := 30) rfl ?_ ?_
     · intro a' w' hB hk hin KK hK
       unfold Oper.wp execOp
       go_simp
       refine (byt_walk 97 (by decide) w').mono ?_
       rintro e wn ⟨zz, rfl, hat, hbn⟩
       exact hK _ _ (hB.trans (hbn.mono hB.size)) (KeepsC.of_below hbn) (fact_put (P := isVal (Vl.mk 2 97 [])) rfl ⟨zz, rfl, hat⟩)
     refine AllG.cons (k' := 31) rfl ?_ ?_
     · intro a' w' hB hk hin KK hK
       unfold Oper.wp execOp
       go_simp
       refine (byt_walk 98 (by decide) w').mono ?_
       rintro e wn ⟨zz, rfl, hat, hbn⟩
       exact hK _ _ (hB.trans (hbn.mono hB.size)) (KeepsC.of_below hbn) (fact_put (P := isVal (Vl.mk 2 98 [])) rfl ⟨zz, rfl, hat⟩)
     refine AllG.cons (k' := 32) rfl ?_ ?_
     · intro a' w' hB hk hin KK hK
       obtain ⟨v29, e29, q29⟩ := hin 29 _ 83 rfl rfl ⟨{ on := 29, ground := .data }, by simp, rfl, rfl⟩
       have q29 := fact_get (P := isVal (Vl.mk 2 97 [])) rfl q29
       obtain ⟨zs29, r29, hat29⟩ := q29
       subst r29
       obtain ⟨v30, e30, q30⟩ := hin 30 _ 84 rfl rfl ⟨{ on := 30, ground := .data }, by simp, rfl, rfl⟩
       have q30 := fact_get (P := isVal (Vl.mk 2 98 [])) rfl q30
       obtain ⟨zs30, r30, hat30⟩ := q30
       subst r30
       unfold Oper.wp execOp
       go_simp
       refine (cmp_eq (n := -1) hat29 hat30 (by decide +kernel)).mono ?_
       rintro e wn ⟨rfl, hbn⟩
       exact hK _ _ (hB.trans (hbn.mono hB.size)) (KeepsC.of_below hbn) (fact_put (P := isEq (.int .i64 (-1))) rfl rfl)
     refine AllG.cons (k' := 33) rfl ?_ ?_
     · intro a' w' hB hk hin KK hK
       obtain ⟨v31, e31, q31⟩ := hin 31 _ 85 rfl rfl ⟨{ on := 31, ground := .data }, by simp, rfl, rfl⟩
       have q31 := fact_get (P := isEq (.int .i64 (-1))) rfl q31
       have q31' : v31 = .int .i64 (-1) := q31
       subst q31'
       unfold Oper.wp execOp
       go_simp
       exact hK _ _ hB (KeepsC.of_below (Below.refl _ _)) (fact_put (P := isEq (.bool true)) rfl rfl)
     refine AllG.cons (k' := 34) rfl ?_ ?_
     · intro a' w' hB hk hin KK hK
       obtain ⟨v32, e32, q32⟩ := hin 28 _ 82 rfl rfl ⟨{ on := 28, ground := .data }, by simp, rfl, rfl⟩
       have q32 := fact_get (P := isEq (.bool true)) rfl q32
       have q32' : v32 = .bool true := q32
       subst q32'
       obtain ⟨v33, e33, q33⟩ := hin 32 _ 86 rfl rfl ⟨{ on := 32, ground := .data }, by simp, rfl, rfl⟩
       have q33 := fact_get (P := isEq (.bool true)) rfl q33
       have q33' : v33 = .bool true := q33
       subst q33'
       unfold Oper.wp execOp
       go_simp
       exact hK _ _ hB (KeepsC.of_below (Below.refl _ _)) (fact_put (P := isEq (.bool true)) rfl rfl)
     refine AllG.cons (k' := 35) rfl ?_ ?_
     · intro a' w' hB hk hin KK hK
       obtain ⟨v34, e34, q34⟩ := hin 33 _ 87 rfl rfl ⟨{ on := 33, ground := .data }, by simp, rfl, rfl⟩
       have q34 := fact_get (P := isEq (.bool true)) rfl q34
       have q34' : v34 = .bool true := q34
       subst q34'
       unfold Oper.wp execOp
       go_simp
       exact hK _ _ hB (KeepsC.of_below (Below.refl _ _)) (fact_put (P := isEq (.bool true)) rfl rfl)
     refine AllG.cons (k' := 36) rfl ?_ ?_
     · intro a' w' hB hk hin KK hK
       refine wp_load_valK _ rfl be 0 _ (eval_tmp (by rw [hk 1 (by kernel_rfl)]; rfl)) (BX1.out _ hB).1 ?_
       exact hK _ _ hB (KeepsC.of_below (Below.refl _ _)) (fact_put (P := isVal (Vl.mk 1 0 [])) rfl ⟨_, rfl, (BX1.out _ hB).2⟩)
     refine AllG.cons (k' := 37) rfl ?_ ?_
     · intro a' w' hB hk hin KK hK
       unfold Oper.wp execOp
       go_simp
       refine (byt_walk 97 (by decide) w').mono ?_
       rintro e wn ⟨zz, rfl, hat, hbn⟩
       exact hK _ _ (hB.trans (hbn.mono hB.size)) (KeepsC.of_below hbn) (fact_put (P := isVal (Vl.mk 2 97 [])) rfl ⟨zz, rfl, hat⟩)
     refine AllG.cons (k' := 38) rfl ?_ ?_
     · intro a' w' hB hk hin KK hK
       obtain ⟨v35, e35, q35⟩ := hin 35 _ 89 rfl rfl ⟨{ on := 35, ground := .data }, by simp, rfl, rfl⟩
       have q35 := fact_get (P := isVal (Vl.mk 1 0 [])) rfl q35
       obtain ⟨zs35, r35, hat35⟩ := q35
       subst r35
       obtain ⟨v36, e36, q36⟩ := hin 36 _ 90 rfl rfl ⟨{ on := 36, ground := .data }, by simp, rfl, rfl⟩
       have q36 := fact_get (P := isVal (Vl.mk 2 97 [])) rfl q36
       obtain ⟨zs36, r36, hat36⟩ := q36
       subst r36
       unfold Oper.wp execOp
       go_simp
       refine (cmp_eq (n := 1) hat35 hat36 (by decide +kernel)).mono ?_
       rintro e wn ⟨rfl, hbn⟩
       exact hK _ _ (hB.trans (hbn.mono hB.size)) (KeepsC.of_below hbn) (fact_put (P := isEq (.int .i64 (1))) rfl rfl)
     refine AllG.cons (k' := 39) rfl ?_ ?_
     · intro a' w' hB hk hin KK hK
       obtain ⟨v37, e37, q37⟩ := hin 37 _ 91 rfl rfl ⟨{ on := 37, ground := .data }, by simp, rfl, rfl⟩
       have q37 := fact_get (P := isEq (.int .i64 (1))) rfl q37
       have q37' : v37 = .int .i64 (1) := q37
       subst q37'
       unfold Oper.wp execOp
       go_simp
       exact hK _ _ hB (KeepsC.of_below (Below.refl _ _)) (fact_put (P := isEq (.bool true)) rfl rfl)
     refine AllG.cons (k' := 40) rfl ?_ ?_
     · intro a' w' hB hk hin KK hK
       obtain ⟨v38, e38, q38⟩ := hin 34 _ 88 rfl rfl ⟨{ on := 34, ground := .data }, by simp, rfl, rfl⟩
       have q38 := fact_get (P := isEq (.bool true)) rfl q38
       have q38' : v38 = .bool true := q38
       subst q38'
       obtain ⟨v39, e39, q39⟩ := hin 38 _ 92 rfl rfl ⟨{ on := 38, ground := .data }, by simp, rfl, rfl⟩
       have q39 := fact_get (P := isEq (.bool true)) rfl q39
       have q39' : v39 = .bool true := q39
       subst q39'
       unfold Oper.wp execOp
       go_simp
       exact hK _ _ hB (KeepsC.of_below (Below.refl _ _)) (fact_put (P := isEq (.bool true)) rfl rfl)
     refine AllG.cons (k' := 41) rfl ?_ ?_
     · intro a' w' hB hk hin KK hK
       obtain ⟨v40, e40, q40⟩ := hin 39 _ 93 rfl rfl ⟨{ on := 39, ground := .data }, by simp, rfl, rfl⟩
       have q40 := fact_get (P := isEq (.bool true)) rfl q40
       have q40' : v40 = .bool true := q40
       subst q40'
       unfold Oper.wp execOp
       go_simp
       exact hK _ _ hB (KeepsC.of_below (Below.refl _ _)) (fact_put (P := isEq (.bool true)) rfl rfl)
     refine AllG.cons (k' := 42) rfl ?_ ?_
     · intro a' w' hB hk hin KK hK
       unfold Oper.wp execOp
       go_simp
       exact hK _ _ hB (KeepsC.of_below (Below.refl _ _)) (fact_put (P := isVal (Vl.mk 0 0 [])) rfl ⟨[_, _, _], rfl, at_plain rfl (by decide)⟩)
     refine AllG.cons (k' := 43) rfl ?_ ?_
     · intro a' w' hB hk hin KK hK
       unfold Oper.wp execOp
       go_simp
       exact hK _ _ hB (KeepsC.of_below (Below.refl _ _)) (fact_put (P := isVal (Vl.mk 9 0 [])) rfl ⟨[_, _, _], rfl, at_plain rfl (by decide)⟩)
     refine AllG.cons (k' := 44) rfl ?_ ?_
     · intro a' w' hB hk hin KK hK
       obtain ⟨v41, e41, q41⟩ := hin 41 _ 95 rfl rfl ⟨{ on := 41, ground := .data }, by simp, rfl, rfl⟩
       have q41 := fact_get (P := isVal (Vl.mk 0 0 [])) rfl q41
       obtain ⟨zs41, r41, hat41⟩ := q41
       subst r41
       obtain ⟨v42, e42, q42⟩ := hin 42 _ 96 rfl rfl ⟨{ on := 42, ground := .data }, by simp, rfl, rfl⟩
       have q42 := fact_get (P := isVal (Vl.mk 9 0 [])) rfl q42
       obtain ⟨zs42, r42, hat42⟩ := q42
       subst r42
       unfold Oper.wp execOp
       go_simp
       refine (cmp_eq (n := -1) hat41 hat42 (by decide +kernel)).mono ?_
       rintro e wn ⟨rfl, hbn⟩
       exact hK _ _ (hB.trans (hbn.mono hB.size)) (KeepsC.of_below hbn) (fact_put (P := isEq (.int .i64 (-1))) rfl rfl)
     refine AllG.cons (k' := 45) rfl ?_ ?_
     · intro a' w' hB hk hin KK hK
       obtain ⟨v43, e43, q43⟩ := hin 43 _ 97 rfl rfl ⟨{ on := 43, ground := .data }, by simp, rfl, rfl⟩
       have q43 := fact_get (P := isEq (.int .i64 (-1))) rfl q43
       have q43' : v43 = .int .i64 (-1) := q43
       subst q43'
       unfold Oper.wp execOp
       go_simp
       exact hK _ _ hB (KeepsC.of_below (Below.refl _ _)) (fact_put (P := isEq (.bool true)) rfl rfl)
     refine AllG.cons (k' := 46) rfl ?_ ?_
     · intro a' w' hB hk hin KK hK
       obtain ⟨v44, e44, q44⟩ := hin 40 _ 94 rfl rfl ⟨{ on := 40, ground := .data }, by simp, rfl, rfl⟩
       have q44 := fact_get (P := isEq (.bool true)) rfl q44
       have q44' : v44 = .bool true := q44
       subst q44'
       obtain ⟨v45, e45, q45⟩ := hin 44 _ 98 rfl rfl ⟨{ on := 44, ground := .data }, by simp, rfl, rfl⟩
       have q45 := fact_get (P := isEq (.bool true)) rfl q45
       have q45' : v45 = .bool true := q45
       subst q45'
       unfold Oper.wp execOp
       go_simp
       exact hK _ _ hB (KeepsC.of_below (Below.refl _ _)) (fact_put (P := isEq (.bool true)) rfl rfl)
     refine AllG.cons (k' := 47) rfl ?_ ?_
     · intro a' w' hB hk hin KK hK
       obtain ⟨v46, e46, q46⟩ := hin 45 _ 99 rfl rfl ⟨{ on := 45, ground := .data }, by simp, rfl, rfl⟩
       have q46 := fact_get (P := isEq (.bool true)) rfl q46
       have q46' : v46 = .bool true := q46
       subst q46'
       unfold Oper.wp execOp
       go_simp
       exact hK _ _ hB (KeepsC.of_below (Below.refl _ _)) (fact_put (P := isEq (.bool true)) rfl rfl)
     refine AllG.cons (k' := 48) rfl ?_ ?_
     · intro a' w' hB hk hin KK hK
       unfold Oper.wp execOp
       go_simp
       exact hK _ _ hB (KeepsC.of_below (Below.refl _ _)) (fact_put (P := isVal (Vl.mk 4 0 [])) rfl ⟨[_, _, _], rfl, at_plain rfl (by decide)⟩)
     refine AllG.cons (k' := 49) rfl ?_ ?_
     · intro a' w' hB hk hin KK hK
       refine wp_load_valK _ rfl be 0 _ (eval_tmp (by rw [hk 1 (by kernel_rfl)]; rfl)) (BX1.out _ hB).1 ?_
       exact hK _ _ hB (KeepsC.of_below (Below.refl _ _)) (fact_put (P := isVal (Vl.mk 1 0 [])) rfl ⟨_, rfl, (BX1.out _ hB).2⟩)
     refine AllG.cons (k' := 50) rfl ?_ ?_
     · intro a' w' hB hk hin KK hK
       obtain ⟨v47, e47, q47⟩ := hin 48 _ 102 rfl rfl ⟨{ on := 48, ground := .data }, by simp, rfl, rfl⟩
       have q47 := fact_get (P := isVal (Vl.mk 1 0 [])) rfl q47
       obtain ⟨zs47, r47, hat47⟩ := q47
       subst r47
       have ha47 := at_lit hat47
       obtain ⟨k47, z47, a47, len47, cap47, rfl⟩ := ha47
       have hv := fun cs hc => vals_lit w' [((Vl.mk 1 0 []), [.int .i64 k47, .int .u8 z47, .slice a47 len47 cap47])] (by intro p hp; simp only [List.mem_cons, List.not_mem_nil, or_false] at hp; rcases hp with rfl <;> assumption) cs hc (by show 1 ≤ maxLen; decide)
       unfold Oper.wp execOp
       go_simp
       exact hK _ _ (hB.alloc hB.size _) (KeepsC.of_below ((Below.refl _ _).alloc (Nat.le_refl _) _)) (fact_put (P := isVals [(Vl.mk 1 0 [])]) rfl (hv _ rfl))
     refine AllG.cons (k' := 51) rfl ?_ ?_
     · intro a' w' hB hk hin KK hK
       obtain ⟨v48, e48, q48⟩ := hin 49 _ 103 rfl rfl ⟨{ on := 49, ground := .data }, by simp, rfl, rfl⟩
       have q48 := fact_get (P := isVals [(Vl.mk 1 0 [])]) rfl q48
       have hl48 := q48
       obtain ⟨a48, cap48, r48, _⟩ := q48
       subst r48
       unfold Oper.wp execOp
       go_simp
       exact hK _ _ hB (KeepsC.of_below (Below.refl _ _)) (fact_put (P := isVal (Vl.mk 4 0 [(Vl.mk 1 0 [])])) rfl ⟨[_, _, _], rfl, at_of_list hl48 rfl (by decide)⟩)
     refine AllG.cons (k' := 52) rfl ?_ ?_
     · intro a' w' hB hk hin KK hK
       obtain ⟨v49, e49, q49⟩ := hin 47 _ 101 rfl rfl ⟨{ on := 47, ground := .data }, by simp, rfl, rfl⟩
       have q49 := fact_get (P := isVal (Vl.mk 4 0 [])) rfl q49
       obtain ⟨zs49, r49, hat49⟩ := q49
       subst r49
       obtain ⟨v50, e50, q50⟩ := hin 50 _ 104 rfl rfl ⟨{ on := 50, ground := .data }, by simp, rfl, rfl⟩
       have q50 := fact_get (P := isVal (Vl.mk 4 0 [(Vl.mk 1 0 [])])) rfl q50
       obtain ⟨zs50, r50, hat50⟩ := q50
       subst r50
       unfold Oper.wp execOp
       go_simp
       refine (cmp_eq (n := 1) hat49 hat50 (by decide +kernel)).mono ?_
       rintro e wn ⟨rfl, hbn⟩
       exact hK _ _ (hB.trans (hbn.mono hB.size)) (KeepsC.of_below hbn) (fact_put (P := isEq (.int .i64 (1))) rfl rfl)
     refine AllG.cons (k' := 53) rfl ?_ ?_
     · intro a' w' hB hk hin KK hK
       obtain ⟨v51, e51, q51⟩ := hin 51 _ 105 rfl rfl ⟨{ on := 51, ground := .data }, by simp, rfl, rfl⟩
       have q51 := fact_get (P := isEq (.int .i64 (1))) rfl q51
       have q51' : v51 = .int .i64 (1) := q51
       subst q51'
       unfold Oper.wp execOp
       go_simp
       exact hK _ _ hB (KeepsC.of_below (Below.refl _ _)) (fact_put (P := isEq (.bool true)) rfl rfl)
     refine AllG.cons (k' := 54) rfl ?_ ?_
     · intro a' w' hB hk hin KK hK
       obtain ⟨v52, e52, q52⟩ := hin 46 _ 100 rfl rfl ⟨{ on := 46, ground := .data }, by simp, rfl, rfl⟩
       have q52 := fact_get (P := isEq (.bool true)) rfl q52
       have q52' : v52 = .bool true := q52
       subst q52'
       obtain ⟨v53, e53, q53⟩ := hin 52 _ 106 rfl rfl ⟨{ on := 52, ground := .data }, by simp, rfl, rfl⟩
       have q53 := fact_get (P := isEq (.bool true)) rfl q53
       have q53' : v53 = .bool true := q53
       subst q53'
       unfold Oper.wp execOp
       go_simp
       exact hK _ _ hB (KeepsC.of_below (Below.refl _ _)) (fact_put (P := isEq (.bool true)) rfl rfl)
     refine AllG.cons (k' := 55) rfl ?_ ?_
     · intro a' w' hB hk hin KK hK
       obtain ⟨v54, e54, q54⟩ := hin 53 _ 107 rfl rfl ⟨{ on := 53, ground := .data }, by simp, rfl, rfl⟩
       have q54 := fact_get (P := isEq (.bool true)) rfl q54
       have q54' : v54 = .bool true := q54
       subst q54'
       unfold Oper.wp execOp
       go_simp
       exact hK _ _ hB (KeepsC.of_below (Below.refl _ _)) (fact_put (P := isEq (.bool true)) rfl rfl)
     refine AllG.cons (k' := 56) rfl ?_ ?_
     · intro a' w' hB hk hin KK hK
       have e7 : a'.tmps[7]? = some (.bool true) := by rw [hk 7 (by kernel_rfl)]; rfl
       unfold Oper.wp execOp
       go_simp
       exact hK _ _ hB (KeepsC.of_below (Below.refl _ _)) (fact_put (P := isEq (.bool true)) rfl rfl)
     refine AllG.cons (k' := 57) rfl ?_ ?_
     · intro a' w' hB hk hin KK hK
       obtain ⟨v55, e55, q55⟩ := hin 54 _ 108 rfl rfl ⟨{ on := 54, ground := .data }, by simp, rfl, rfl⟩
       have q55 := fact_get (P := isEq (.bool true)) rfl q55
       have q55' : v55 = .bool true := q55
       subst q55'
       obtain ⟨v56, e56, q56⟩ := hin 55 _ 109 rfl rfl ⟨{ on := 55, ground := .data }, by simp, rfl, rfl⟩
       have q56 := fact_get (P := isEq (.bool true)) rfl q56
       have q56' : v56 = .bool true := q56
       subst q56'
       unfold Oper.wp execOp
       go_simp
       exact hK _ _ hB (KeepsC.of_below (Below.refl _ _)) (fact_put (P := isEq (.bool true)) rfl rfl)
     refine AllG.cons (k' := 58) rfl ?_ ?_
     · intro a' w' hB hk hin KK hK
       obtain ⟨v57, e57, q57⟩ := hin 56 _ 110 rfl rfl ⟨{ on := 56, ground := .data }, by simp, rfl, rfl⟩
       have q57 := fact_get (P := isEq (.bool true)) rfl q57
       have q57' : v57 = .bool true := q57
       subst q57'
       unfold Oper.wp execOp
       go_simp
       exact hK _ _ hB (KeepsC.of_below (Below.refl _ _)) (fact_put (P := isEq (.bool true)) rfl rfl)
     refine AllG.cons (k' := 59) rfl ?_ ?_
     · intro a' w' hB hk hin KK hK
       have e6 : a'.tmps[6]? = some (.int .i64 0) := by rw [hk 6 (by kernel_rfl)]; rfl
       unfold Oper.wp execOp
       go_simp
       exact hK _ _ hB (KeepsC.of_below (Below.refl _ _)) (fact_put (P := isEq (.int .i64 0)) rfl rfl)
     refine AllG.cons (k' := 60) rfl ?_ ?_
     · intro a' w' hB hk hin KK hK
       obtain ⟨v58, e58, q58⟩ := hin 58 _ 112 rfl rfl ⟨{ on := 58, ground := .data }, by simp, rfl, rfl⟩
       have q58 := fact_get (P := isEq (.int .i64 0)) rfl q58
       have q58' : v58 = .int .i64 0 := q58
       subst q58'
       unfold Oper.wp execOp
       go_simp
       exact hK _ _ hB (KeepsC.of_below (Below.refl _ _)) (fact_put (P := isEq (.bool true)) rfl rfl)
     refine AllG.cons (k' := 61) rfl ?_ ?_
     · intro a' w' hB hk hin KK hK
       obtain ⟨v59, e59, q59⟩ := hin 57 _ 111 rfl rfl ⟨{ on := 57, ground := .data }, by simp, rfl, rfl⟩
       have q59 := fact_get (P := isEq (.bool true)) rfl q59
       have q59' : v59 = .bool true := q59
       subst q59'
       obtain ⟨v60, e60, q60⟩ := hin 59 _ 113 rfl rfl ⟨{ on := 59, ground := .data }, by simp, rfl, rfl⟩
       have q60 := fact_get (P := isEq (.bool true)) rfl q60
       have q60' : v60 = .bool true := q60
       subst q60'
       unfold Oper.wp execOp
       go_simp
       exact hK _ _ hB (KeepsC.of_below (Below.refl _ _)) (fact_put (P := isEq (.bool true)) rfl rfl)
     refine AllG.cons (k' := 62) rfl ?_ ?_
     · intro a' w' hB hk hin KK hK
       obtain ⟨v61, e61, q61⟩ := hin 60 _ 114 rfl rfl ⟨{ on := 60, ground := .data }, by simp, rfl, rfl⟩
       have q61 := fact_get (P := isEq (.bool true)) rfl q61
       have q61' : v61 = .bool true := q61
       subst q61'
       unfold Oper.wp execOp
       go_simp
       exact hK _ _ hB (KeepsC.of_below (Below.refl _ _)) (fact_put (P := isEq (.bool true)) rfl rfl)
     refine AllG.cons (k' := 63) rfl ?_ ?_
     · intro a' w' hB hk hin KK hK
       have e9 : a'.tmps[9]? = some (.bool false) := by rw [hk 9 (by kernel_rfl)]; rfl
       unfold Oper.wp execOp
       go_simp
       exact hK _ _ hB (KeepsC.of_below (Below.refl _ _)) (fact_put (P := isEq (.bool false)) rfl rfl)
     refine AllG.cons (k' := 64) rfl ?_ ?_
     · intro a' w' hB hk hin KK hK
       obtain ⟨v62, e62, q62⟩ := hin 62 _ 116 rfl rfl ⟨{ on := 62, ground := .data }, by simp, rfl, rfl⟩
       have q62 := fact_get (P := isEq (.bool false)) rfl q62
       have q62' : v62 = .bool false := q62
       subst q62'
       unfold Oper.wp execOp
       go_simp
       exact hK _ _ hB (KeepsC.of_below (Below.refl _ _)) (fact_put (P := isEq (.bool true)) rfl rfl)
     refine AllG.cons (k' := 65) rfl ?_ ?_
     · intro a' w' hB hk hin KK hK
       obtain ⟨v63, e63, q63⟩ := hin 61 _ 115 rfl rfl ⟨{ on := 61, ground := .data }, by simp, rfl, rfl⟩
       have q63 := fact_get (P := isEq (.bool true)) rfl q63
       have q63' : v63 = .bool true := q63
       subst q63'
       obtain ⟨v64, e64, q64⟩ := hin 63 _ 117 rfl rfl ⟨{ on := 63, ground := .data }, by simp, rfl, rfl⟩
       have q64 := fact_get (P := isEq (.bool true)) rfl q64
       have q64' : v64 = .bool true := q64
       subst q64'
       unfold Oper.wp execOp
       go_simp
       exact hK _ _ hB (KeepsC.of_below (Below.refl _ _)) (fact_put (P := isEq (.bool true)) rfl rfl)
     refine AllG.cons (k' := 66) rfl ?_ ?_
     · intro a' w' hB hk hin KK hK
       obtain ⟨v65, e65, q65⟩ := hin 64 _ 118 rfl rfl ⟨{ on := 64, ground := .data }, by simp, rfl, rfl⟩
       have q65 := fact_get (P := isEq (.bool true)) rfl q65
       have q65' : v65 = .bool true := q65
       subst q65'
       unfold Oper.wp execOp
       go_simp
       exact hK _ _ hB (KeepsC.of_below (Below.refl _ _)) (fact_put (P := isEq (.bool true)) rfl rfl)
     refine AllG.cons (k' := 67) rfl ?_ ?_
     · intro a' w' hB hk hin KK hK
       have e11 : a'.tmps[11]? = some (.bool true) := by rw [hk 11 (by kernel_rfl)]; rfl
       unfold Oper.wp execOp
       go_simp
       exact hK _ _ hB (KeepsC.of_below (Below.refl _ _)) (fact_put (P := isEq (.bool true)) rfl rfl)
     refine AllG.cons (k' := 68) rfl ?_ ?_
     · intro a' w' hB hk hin KK hK
       obtain ⟨v66, e66, q66⟩ := hin 65 _ 119 rfl rfl ⟨{ on := 65, ground := .data }, by simp, rfl, rfl⟩
       have q66 := fact_get (P := isEq (.bool true)) rfl q66
       have q66' : v66 = .bool true := q66
       subst q66'
       obtain ⟨v67, e67, q67⟩ := hin 66 _ 120 rfl rfl ⟨{ on := 66, ground := .data }, by simp, rfl, rfl⟩
       have q67 := fact_get (P := isEq (.bool true)) rfl q67
       have q67' : v67 = .bool true := q67
       subst q67'
       unfold Oper.wp execOp
       go_simp
       exact hK _ _ hB (KeepsC.of_below (Below.refl _ _)) (fact_put (P := isEq (.bool true)) rfl rfl)
     refine AllG.cons (k' := 69) rfl ?_ ?_
     · intro a' w' hB hk hin KK hK
       obtain ⟨v68, e68, q68⟩ := hin 67 _ 121 rfl rfl ⟨{ on := 67, ground := .data }, by simp, rfl, rfl⟩
       have q68 := fact_get (P := isEq (.bool true)) rfl q68
       have q68' : v68 = .bool true := q68
       subst q68'
       unfold Oper.wp execOp
       go_simp
       exact hK _ _ hB (KeepsC.of_below (Below.refl _ _)) (fact_put (P := isEq (.bool true)) rfl rfl)
     refine AllG.cons (k' := 70) rfl ?_ ?_
     · intro a' w' hB hk hin KK hK
       have e10 : a'.tmps[10]? = some (.int .i64 1) := by rw [hk 10 (by kernel_rfl)]; rfl
       unfold Oper.wp execOp
       go_simp
       exact hK _ _ hB (KeepsC.of_below (Below.refl _ _)) (fact_put (P := isEq (.int .i64 1)) rfl rfl)
     refine AllG.cons (k' := 71) rfl ?_ ?_
     · intro a' w' hB hk hin KK hK
       obtain ⟨v69, e69, q69⟩ := hin 69 _ 123 rfl rfl ⟨{ on := 69, ground := .data }, by simp, rfl, rfl⟩
       have q69 := fact_get (P := isEq (.int .i64 1)) rfl q69
       have q69' : v69 = .int .i64 1 := q69
       subst q69'
       unfold Oper.wp execOp
       go_simp
       exact hK _ _ hB (KeepsC.of_below (Below.refl _ _)) (fact_put (P := isEq (.bool true)) rfl rfl)
     refine AllG.cons (k' := 72) rfl ?_ ?_
     · intro a' w' hB hk hin KK hK
       obtain ⟨v70, e70, q70⟩ := hin 68 _ 122 rfl rfl ⟨{ on := 68, ground := .data }, by simp, rfl, rfl⟩
       have q70 := fact_get (P := isEq (.bool true)) rfl q70
       have q70' : v70 = .bool true := q70
       subst q70'
       obtain ⟨v71, e71, q71⟩ := hin 70 _ 124 rfl rfl ⟨{ on := 70, ground := .data }, by simp, rfl, rfl⟩
       have q71 := fact_get (P := isEq (.bool true)) rfl q71
       have q71' : v71 = .bool true := q71
       subst q71'
       unfold Oper.wp execOp
       go_simp
       exact hK _ _ hB (KeepsC.of_below (Below.refl _ _)) (fact_put (P := isEq (.bool true)) rfl rfl)
     refine AllG.cons (k' := 73) rfl ?_ ?_
     · intro a' w' hB hk hin KK hK
       obtain ⟨v72, e72, q72⟩ := hin 71 _ 125 rfl rfl ⟨{ on := 71, ground := .data }, by simp, rfl, rfl⟩
       have q72 := fact_get (P := isEq (.bool true)) rfl q72
       have q72' : v72 = .bool true := q72
       subst q72'
       unfold Oper.wp execOp
       go_simp
       exact hK _ _ hB (KeepsC.of_below (Below.refl _ _)) (fact_put (P := isEq (.bool true)) rfl rfl)
     exact AllG.nil
   case hend =>
    intro a' w' hB hdef hsz hk hvals
    obtain ⟨v0', hv0, hvt0⟩ := hvals 72 _ 0 rfl rfl
    have hvt0' : v0' = .bool true := fact_get (P := isEq (.bool true)) rfl hvt0
    have hf0 : a'.tmps.getD 0 undef = v0' := by rw [Array.getD_eq_getD_getElem?, hv0]; rfl
    have heq := act_eq hdef hsz hk
    refine hMet a' w' (Met.intro (hR a' w' ?_))
    refine ⟨a'.tmps.getD 0 undef, a'.tmps.getD 54 undef, a'.tmps.getD 55 undef, a'.tmps.getD 56 undef, a'.tmps.getD 57 undef, a'.tmps.getD 58 undef, a'.tmps.getD 59 undef, a'.tmps.getD 60 undef, a'.tmps.getD 61 undef, a'.tmps.getD 62 undef, a'.tmps.getD 63 undef, a'.tmps.getD 64 undef, a'.tmps.getD 65 undef, a'.tmps.getD 66 undef, a'.tmps.getD 67 undef, a'.tmps.getD 68 undef, a'.tmps.getD 69 undef, a'.tmps.getD 70 undef, a'.tmps.getD 71 undef, a'.tmps.getD 72 undef, a'.tmps.getD 73 undef, a'.tmps.getD 74 undef, a'.tmps.getD 75 undef, a'.tmps.getD 76 undef, a'.tmps.getD 77 undef, a'.tmps.getD 78 undef, a'.tmps.getD 79 undef, a'.tmps.getD 80 undef, a'.tmps.getD 81 undef, a'.tmps.getD 82 undef, a'.tmps.getD 83 undef, a'.tmps.getD 84 undef, a'.tmps.getD 85 undef, a'.tmps.getD 86 undef, a'.tmps.getD 87 undef, a'.tmps.getD 88 undef, a'.tmps.getD 89 undef, a'.tmps.getD 90 undef, a'.tmps.getD 91 undef, a'.tmps.getD 92 undef, a'.tmps.getD 93 undef, a'.tmps.getD 94 undef, a'.tmps.getD 95 undef, a'.tmps.getD 96 undef, a'.tmps.getD 97 undef, a'.tmps.getD 98 undef, a'.tmps.getD 99 undef, a'.tmps.getD 100 undef, a'.tmps.getD 101 undef, a'.tmps.getD 102 undef, a'.tmps.getD 103 undef, a'.tmps.getD 104 undef, a'.tmps.getD 105 undef, a'.tmps.getD 106 undef, a'.tmps.getD 107 undef, a'.tmps.getD 108 undef, a'.tmps.getD 109 undef, a'.tmps.getD 110 undef, a'.tmps.getD 111 undef, a'.tmps.getD 112 undef, a'.tmps.getD 113 undef, a'.tmps.getD 114 undef, a'.tmps.getD 115 undef, a'.tmps.getD 116 undef, a'.tmps.getD 117 undef, a'.tmps.getD 118 undef, a'.tmps.getD 119 undef, a'.tmps.getD 120 undef, a'.tmps.getD 121 undef, a'.tmps.getD 122 undef, a'.tmps.getD 123 undef, a'.tmps.getD 124 undef, a'.tmps.getD 125 undef, ⟨by rw [hf0]; exact hvt0', hB⟩, heq.trans ?_⟩
    kernel_rfl
  case rest =>
  obtain ⟨rfl, hBc⟩ := hcut
  have HE := Lib.hid ((bt H2.out (bt H3.out (bt H4.out (bt H5.out (bt H6.out (bt H7.out (bt H8.out (bt H9.out (bt H10.out (bt H11.out (bt H12.out (bt H13.out (bt H14.out (bt H15.out (bt H16.out (bt H17.out (bt H18.out (bt H19.out (bt H20.out (bt H21.out (bt H22.out (bt H23.out (bt H24.out (bt H25.out H26.out)))))))))))))))))))))))).trans (hBc.mono (bt H2.out (bt H3.out (bt H4.out (bt H5.out (bt H6.out (bt H7.out (bt H8.out (bt H9.out (bt H10.out (bt H11.out (bt H12.out (bt H13.out (bt H14.out (bt H15.out (bt H16.out (bt H17.out (bt H18.out (bt H19.out (bt H20.out (bt H21.out (bt H22.out (bt H23.out (bt H24.out (bt H25.out H26.out)))))))))))))))))))))))).size))
  clear hBc
  go_wp2_with fail
  go_ret
  exact ⟨rfl, HE.out⟩
end V
end Go.Proofs.Ytkekdfelcfoilaa
