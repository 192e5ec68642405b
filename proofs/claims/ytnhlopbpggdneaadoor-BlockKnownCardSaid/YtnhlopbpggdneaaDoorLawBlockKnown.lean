/- The walk of what chapter 3 says of no sets, of sets that are alike, of parts that are none. -/
import Derived.Test.YtnhlopbpggdneaaDoorBlockFacts
import Derived.Test.YtnhlopbpggdneaaDoorBlockAwake
import Derived.Test.YtnhlopbpggdneaaDoorEager
import Derived.Test.YtnhlopbpggdneaaDoorMark
namespace Go.Proofs.YtnhlopbpggdneaaDoor
open Go.RowKit

def kR1 : BitVec 256 := setOf (upTo 97 99)
def kR2 : BitVec 256 := setOf (upTo 98 100)
def kAll : BitVec 256 := BitVec.allOnes 256
def kE : BitVec 256 := setOf []
def kRest : BitVec 256 := ~~~(setOf (upTo 97 100))
def kS1 : BitVec 256 := setOf [97]
def kS2 : BitVec 256 := setOf [98, 99]
def kS3 : BitVec 256 := setOf [100]
def kX : BitVec 256 := setOf [120]
def kQ : BitVec 256 := setOf [113]
theorem known_none : partsOf [] = [kAll] := by decide +kernel
theorem known_two : partsOf [kR1, kR2, kR1, kAll, kE] = [kRest, kS1, kS2, kS3] := by decide +kernel
theorem known_find : findAt [kRest, kS1, kS2, kS3] 100 = 3 ∧ findOk [kRest, kS1, kS2, kS3] 100 = true ∧ findAt [kX] 121 = 0 ∧ findOk [kX] 121 = false := by decide +kernel
theorem known_heads : headsOf [0, kQ] = [113] ∧ [99, 97, 100, 33].map (headOf [kRest, kS1, kS2, kS3]) = [98, 97, 100, 0] ∧ [120, 121].map (headOf []) = [120, 121] := by decide +kernel
def knownPlan3 : Plan := (.plain 0 (.plain 1 (.plain 2 (.plain 3 (.plain 4 (.plain 5 (.plain 6 (.sole 7 (.plain 8 (.plain 9 (.plain 10 (.plain 11 (.plain 12 (.plain 13 (.plain 14 (.plain 15 (.plain 16 (.plain 17 (.plain 18 (.sole 19 (.sole 20 (.plain 21 (.plain 22 (.plain 23 (.plain 24 (.plain 25 (.plain 26 (.sole 27 (.sole 28 (.plain 29 (.plain 30 (.plain 31 (.plain 32 (.plain 33 (.plain 34 (.sole 35 (.sole 36 (.plain 37 (.plain 38 (.plain 39 (.plain 40 (.plain 41 (.plain 42 (.plain 43 (.plain 44 (.plain 45 (.plain 46 (.plain 47 (.plain 48 (.plain 49 (.plain 50 (.plain 51 (.sole 52 (.sole 53 (.sole 54 (.sole 55 (.plain 56 (.plain 57 (.plain 58 (.plain 59 (.plain 60 (.sole 61 (.sole 62 (.sole 63 (.plain 64 (.plain 65 (.plain 66 (.plain 67 (.sole 68 (.sole 69 (.sole 70 (.plain 71 (.plain 72 (.plain 73 (.plain 74 .done)))))))))))))))))))))))))))))))))))))))))))))))))))))))))))))))))))))))))))
set_option maxRecDepth 100000 in
set_option maxHeartbeats 8000000 in
theorem blockKnown_walk (w : World) (hT : TabAt 0 Lib.deBruijn64tab w) :
    Calls Tryd.prog 3 #[] w fun e w' => e = .returned (.bool true) ∧ Below w.heap.size w w' := by
  obtain ⟨f1, f2, f3, f4⟩ := known_find
  obtain ⟨h1, h2, h3⟩ := known_heads
  have q1 := range_lit 97 99 97 99 rfl rfl (by decide) (by decide)
  have q2 := range_lit 98 100 98 100 rfl rfl (by decide) (by decide)
  have qA := all_any
  have oN := fun w => of_any none 0 0 [] w ⟨rfl, by simp, by decide, .inl rfl⟩
  have o1 := fun (a : Option Addr) (cap : Nat) (w : World) h => of_any a 1 cap [97] w h
  have o2 := fun (a : Option Addr) (cap : Nat) (w : World) h => of_any a 2 cap [98, 99] w h
  have o3 := fun (a : Option Addr) (cap : Nat) (w : World) h => of_any a 1 cap [100] w h
  have oX := fun (a : Option Addr) (cap : Nat) (w : World) h => of_any a 1 cap [120] w h
  have oQ := fun (a : Option Addr) (cap : Nat) (w : World) h => of_any a 1 cap [113] w h
  have e1 : setOf (upTo 97 99) = kR1 := rfl
  have e2 : setOf (upTo 98 100) = kR2 := rfl
  have e3 : BitVec.allOnes 256 = kAll := rfl
  have e4 : setOf [] = kE := rfl
  have e5 : setOf [97] = kS1 := rfl
  have e6 : setOf [98, 99] = kS2 := rfl
  have e7 : setOf [100] = kS3 := rfl
  have e8 : setOf [120] = kX := rfl
  have e9 : setOf [113] = kQ := rfl
  rw [e1] at q1
  rw [e2] at q2
  rw [e3] at qA
  rw [e4] at oN
  rw [e5] at o1
  rw [e6] at o2
  rw [e7] at o3
  rw [e8] at oX
  rw [e9] at oQ
  have bN := fun (w : World) h => blockOf_any none 0 0 [] w ⟨rfl, by decide, .inl rfl⟩ h
  rw [known_none] at bN
  have b2 := fun (a : Option Addr) (w : World) h h' => blockOf_any a 5 5 [kR1, kR2, kR1, kAll, kE] w h h'
  rw [known_two] at b2
  have fd := fun (a : Option Addr) (cap : Nat) (w : World) h => find_any a 4 cap [kRest, kS1, kS2, kS3] 100 (by decide) w h
  rw [f1, f2] at fd
  have fy := fun (a : Option Addr) (w : World) h => find_any a 1 1 [kX] 121 (by decide) w h
  rw [f3, f4] at fy
  have hH := fun (a : Option Addr) (w : World) h h' => listAt_of_row (heads_any a 2 2 [0, kQ] w h (by decide) h') (by rw [h1]; decide)
  rw [h1] at hH
  have hM := fun (a : Option Addr) (cap : Nat) (a' : Option Addr) (w : World) h h' h'' => listAt_of_row (map_any a 4 cap [kRest, kS1, kS2, kS3] a' 4 4 [99, 97, 100, 33] w h h' (by decide) h'') (by rw [h2]; decide)
  rw [h2] at hM
  have hM2 := fun (a' : Option Addr) (w : World) h' h'' => listAt_of_row (map_any none 0 0 [] a' 2 2 [120, 121] w ⟨rfl, by decide, .inl rfl⟩ h' (by decide) h'') (by rw [h3]; decide)
  rw [h3] at hM2
  have hz0 : ∀ Q : BitVec 256, setCells [0, Q] = [.int .u64 0, .int .u64 0, .int .u64 0, .int .u64 0, .int .u64 (word Q 0 : Int), .int .u64 (word Q 1 : Int), .int .u64 (word Q 2 : Int), .int .u64 (word Q 3 : Int)] := by
    intro Q
    show [Value.int .u64 (word 0 0 : Int), .int .u64 (word 0 1 : Int), .int .u64 (word 0 2 : Int), .int .u64 (word 0 3 : Int), .int .u64 (word Q 0 : Int), .int .u64 (word Q 1 : Int), .int .u64 (word Q 2 : Int), .int .u64 (word Q 3 : Int)] = _
    rw [word_zero, word_zero, word_zero, word_zero]; rfl
  have hstr1 : (toBytes [98, 97, 100, 0] == [98, 97, 100, 0]) = true := by decide
  have hstr2 : (toBytes [120, 121] == [120, 121]) = true := by decide
  have g0 := eql_same kAll
  have g1 := eql_same kS1
  have g2 := eql_same kS2
  have g3 := eql_same kS3
  clear f1 f2 f3 f4 h1 h2 h3 e1 e2 e3 e4 e5 e6 e7 e8 e9
  generalize kR1 = R1 at *
  generalize kR2 = R2 at *
  generalize kAll = A at *
  generalize kE = E at *
  generalize kRest = R at *
  generalize kS1 = S1 at *
  generalize kS2 = S2 at *
  generalize kS3 = S3 at *
  generalize kX = X at *
  generalize kQ = Q at *
  go_enter Tryd.func3, Tryd.ntmps3
  go_wp2_with fail
  refine (awake_any _ hT).mono ?_
  rintro e w1 ⟨rfl, hb1⟩
  have hT1 := tab_below hT hb1 (tab_pos hT)
  go_wp2_with fail
  refine (bN _ hT1).mono ?_
  rintro e w2 ⟨oa, ocap, rfl, hone, hb2, hooff⟩
  have hbw2 := hb1.trans (hb2.mono hb1.size)
  obtain ⟨go, rfl, hoc, _, hgo, hocell⟩ := sets_open hone hooff (by simp)
  have ho0 := hocell 0 (by simp)
  simp only [List.getD_cons_zero] at ho0
  clear hb1 hT1 hone hooff hocell hb2 bN
  simp at hoc
  go_wp2_with fail
  refine (q1 _).mono ?_
  rintro e v1 ⟨rfl, c1⟩
  go_wp2_with fail
  refine (q2 _).mono ?_
  rintro e v2 ⟨rfl, c2⟩
  go_wp2_with fail
  refine (q1 _).mono ?_
  rintro e v3 ⟨rfl, c3⟩
  go_wp2_with fail
  refine (qA _).mono ?_
  rintro e v4 ⟨rfl, c4⟩
  go_wp2_with fail
  refine (oN _).mono ?_
  rintro e v5 ⟨rfl, c5⟩
  have h25 : Below w2.heap.size w2 v5 := (((c1.trans (c2.mono c1.size)).trans (c3.mono (c1.trans (c2.mono c1.size)).size)).trans (c4.mono ((c1.trans (c2.mono c1.size)).trans (c3.mono (c1.trans (c2.mono c1.size)).size)).size)).trans (c5.mono (((c1.trans (c2.mono c1.size)).trans (c3.mono (c1.trans (c2.mono c1.size)).size)).trans (c4.mono ((c1.trans (c2.mono c1.size)).trans (c3.mono (c1.trans (c2.mono c1.size)).size)).size)).size)
  have hbw5 := hbw2.trans (h25.mono hbw2.size)
  have hT5 := tab_below hT hbw5 (tab_pos hT)
  have ho5 := ho0.below h25 hgo
  have hgo5 : go < v5.heap.size := by have := h25.size; omega
  have hlit := sets_lit v5 [R1, R2, R1, A, E] #[.int .u64 (word R1 0), .int .u64 (word R1 1), .int .u64 (word R1 2), .int .u64 (word R1 3), .int .u64 (word R2 0), .int .u64 (word R2 1), .int .u64 (word R2 2), .int .u64 (word R2 3), .int .u64 (word R1 0), .int .u64 (word R1 1), .int .u64 (word R1 2), .int .u64 (word R1 3), .int .u64 (word A 0), .int .u64 (word A 1), .int .u64 (word A 2), .int .u64 (word A 3), .int .u64 (word E 0), .int .u64 (word E 1), .int .u64 (word E 2), .int .u64 (word E 3)] rfl (by simp [maxLen])
  clear c1 c2 c3 c4 c5 h25 hbw2 ho0 hgo q1 q2 oN
  go_wp2_with fail
  refine (b2 _ _ hlit (tab_alloc hT5 _)).mono ?_
  rintro e w6 ⟨ta, tcap, rfl, htwo, hb6, htoff⟩
  have h56 : Below v5.heap.size v5 w6 := ((Below.refl _ _).alloc (Nat.le_refl _) _).trans (hb6.mono (by simp))
  have hbw6 := hbw5.trans (h56.mono hbw5.size)
  have hT6 := tab_below hT hbw6 (tab_pos hT)
  have ho6 := ho5.below h56 hgo5
  have hgo6 : go < w6.heap.size := by have := h56.size; omega
  have htwo' : SetsAt w6 ta 4 tcap [R, S1, S2, S3] := htwo
  obtain ⟨gt, rfl, htc, _, hgt, htcell⟩ := sets_open htwo' htoff (by decide)
  clear hb6 hlit b2 h56 hbw5 hT5 ho5 hgo5 htwo
  go_wp2_with fail
  refine (fd _ _ _ htwo').mono ?_
  rintro e w7 ⟨rfl, hb7⟩
  go_wp2_with fail
  refine (oX _ _ _ (bytes_lit w7 [120] #[.int .u8 120] rfl (by decide) (by decide))).mono ?_
  rintro e w8 ⟨rfl, hb8⟩
  have h68 : Below w6.heap.size w6 w8 := (hb7.alloc hb7.size _).trans (hb8.mono (by have := hb7.size; simp; omega))
  have hlx := sets_lit w8 [X] #[.int .u64 (word X 0), .int .u64 (word X 1), .int .u64 (word X 2), .int .u64 (word X 3)] rfl (by simp [maxLen])
  clear hb7 hb8
  go_wp2_with fail
  refine (fy _ _ hlx).mono ?_
  rintro e w9 ⟨rfl, hb9⟩
  have h69 : Below w6.heap.size w6 w9 := (h68.alloc h68.size _).trans (hb9.mono (by have := h68.size; simp; omega))
  have hbw9 := hbw6.trans (h69.mono hbw6.size)
  have hT9 := tab_below hT hbw9 (tab_pos hT)
  have ho9 := ho6.below h69 hgo6
  have hgo9 : go < w9.heap.size := by have := h69.size; omega
  have hgt9 : gt < w9.heap.size := by have := h69.size; omega
  have ht9 := htwo'.below h69 rfl
  have t1 := (htcell 1 (by decide)).below h69 hgt
  have t2 := (htcell 2 (by decide)).below h69 hgt
  have t3 := (htcell 3 (by decide)).below h69 hgt
  simp only [List.getD_cons_zero, List.getD_cons_succ] at t1 t2 t3
  have l0 : ∀ w', (∃ L : Later w9, w' = L.val) → Set4 w' go 0 A := fun w' hw' => by obtain ⟨L, rfl⟩ := hw'; exact ho9.below L.ok hgo9
  have l1 : ∀ w', (∃ L : Later w9, w' = L.val) → Set4 w' gt 4 S1 := fun w' hw' => by obtain ⟨L, rfl⟩ := hw'; exact t1.below L.ok hgt9
  have l2 : ∀ w', (∃ L : Later w9, w' = L.val) → Set4 w' gt 8 S2 := fun w' hw' => by obtain ⟨L, rfl⟩ := hw'; exact t2.below L.ok hgt9
  have l3 : ∀ w', (∃ L : Later w9, w' = L.val) → Set4 w' gt 12 S3 := fun w' hw' => by obtain ⟨L, rfl⟩ := hw'; exact t3.below L.ok hgt9
  clear hb9 h68 h69 hlx htcell htwo' ho6 ho9 t1 t2 t3 hbw6 hT6 fd fy oX htoff
  go_wp2_with fail
  simp only [List.append]
  have hne := Later.nonempty w9
  refine wp_region_eager knownPlan3 (W0 := w9) (Below.refl _ _) (by kernel_rfl) ?fit (fun c a d v w h => by cases d <;> exact h) ?_
  case fit =>
    as_aux_lemma =>
      refine eagerB_of (n := 75) (by kernel_rfl) (by kernel_rfl) ?_
      unfold knownPlan3
      simp only [List.replicate]
      repeat (first
        | exact fits_done (by as_aux_lemma => kernel_rfl)
        | (refine fits_plain (by as_aux_lemma => kernel_rfl) ?_; simp only [List.setIfInBounds_toArray, List.set_cons_zero, List.set_cons_succ])
        | (refine fits_sole (by as_aux_lemma => kernel_rfl) ?_; simp only [List.setIfInBounds_toArray, List.set_cons_zero, List.set_cons_succ]))
  unfold knownPlan3
  have hTc := tab_drew hT9
  have hcur := (Below.refl w9.heap.size w9).drew
  repeat (first
      | (refine' eager_skip ?_ ?_ ?_
         rotate_left 1
         · simp only [List.getElem?_toArray, List.getElem?_cons_zero, List.getElem?_cons_succ]; exact rfl
         · exact rfl
         simp only [Act.put, List.setIfInBounds_toArray, List.set_cons_zero, List.set_cons_succ])
      | (refine' eager_want ?_ ?_ (fun K hK => ?_)
         rotate_left 1
         · simp only [List.getElem?_toArray, List.getElem?_cons_zero, List.getElem?_cons_succ]; exact rfl
         · exact rfl
         first
         | (refine quiet_load_set _ rfl go 0 A rfl l0 ?_; refine hK _ ?_; clear hK K; try simp only [Act.put, List.setIfInBounds_toArray, List.set_cons_zero, List.set_cons_succ])
         | (refine quiet_load_set _ rfl gt 4 S1 rfl l1 ?_; refine hK _ ?_; clear hK K; try simp only [Act.put, List.setIfInBounds_toArray, List.set_cons_zero, List.set_cons_succ])
         | (refine quiet_load_set _ rfl gt 8 S2 rfl l2 ?_; refine hK _ ?_; clear hK K; try simp only [Act.put, List.setIfInBounds_toArray, List.set_cons_zero, List.set_cons_succ])
         | (refine quiet_load_set _ rfl gt 12 S3 rfl l3 ?_; refine hK _ ?_; clear hK K; try simp only [Act.put, List.setIfInBounds_toArray, List.set_cons_zero, List.set_cons_succ])
         | (go_big_quiet_op; refine hK _ ?_; clear hK K)))
  refine' eager_call ?_ ?_ (fun K hK => ?_)
  rotate_left 1
  · simp only [List.getElem?_toArray, List.getElem?_cons_zero, List.getElem?_cons_succ]; exact rfl
  · exact rfl
  go_simp
  refine (qA _).mono ?_
  rintro e wn ⟨rfl, hb⟩
  refine hK _ _ hb ?_
  replace hTc := tab_below hTc hb (tab_pos hTc)
  replace hcur := hcur.trans (hb.mono hcur.size)
  clear hb hK K
  try simp only [Act.put, List.setIfInBounds_toArray, List.set_cons_zero, List.set_cons_succ]
  repeat (first
      | (refine' eager_skip ?_ ?_ ?_
         rotate_left 1
         · simp only [List.getElem?_toArray, List.getElem?_cons_zero, List.getElem?_cons_succ]; exact rfl
         · exact rfl
         simp only [Act.put, List.setIfInBounds_toArray, List.set_cons_zero, List.set_cons_succ])
      | (refine' eager_want ?_ ?_ (fun K hK => ?_)
         rotate_left 1
         · simp only [List.getElem?_toArray, List.getElem?_cons_zero, List.getElem?_cons_succ]; exact rfl
         · exact rfl
         first
         | (refine quiet_load_set _ rfl go 0 A rfl l0 ?_; refine hK _ ?_; clear hK K; try simp only [Act.put, List.setIfInBounds_toArray, List.set_cons_zero, List.set_cons_succ])
         | (refine quiet_load_set _ rfl gt 4 S1 rfl l1 ?_; refine hK _ ?_; clear hK K; try simp only [Act.put, List.setIfInBounds_toArray, List.set_cons_zero, List.set_cons_succ])
         | (refine quiet_load_set _ rfl gt 8 S2 rfl l2 ?_; refine hK _ ?_; clear hK K; try simp only [Act.put, List.setIfInBounds_toArray, List.set_cons_zero, List.set_cons_succ])
         | (refine quiet_load_set _ rfl gt 12 S3 rfl l3 ?_; refine hK _ ?_; clear hK K; try simp only [Act.put, List.setIfInBounds_toArray, List.set_cons_zero, List.set_cons_succ])
         | (go_big_quiet_op; refine hK _ ?_; clear hK K)))
  refine' eager_call ?_ ?_ (fun K hK => ?_)
  rotate_left 1
  · simp only [List.getElem?_toArray, List.getElem?_cons_zero, List.getElem?_cons_succ]; exact rfl
  · exact rfl
  go_simp
  refine hK _ _ ((Below.refl _ _).alloc (Nat.le_refl _) _) ?_
  have B1 : BytesAt (wn.alloc (.cells #[.int .u8 97] 5)) (some ⟨wn.heap.size, 0, none⟩) 1 1 [97] := by simpa using bytes_lit wn [97] #[.int .u8 97] rfl (by decide) (by decide)
  replace hcur := hcur.alloc hcur.size (.cells #[.int .u8 97] 5)
  replace hTc := tab_alloc hTc (.cells #[.int .u8 97] 5)
  clear hK K
  try simp only [Act.put, List.setIfInBounds_toArray, List.set_cons_zero, List.set_cons_succ]
  refine' eager_call ?_ ?_ (fun K hK => ?_)
  rotate_left 1
  · simp only [List.getElem?_toArray, List.getElem?_cons_zero, List.getElem?_cons_succ]; exact rfl
  · exact rfl
  go_simp
  refine (o1 _ _ _ B1).mono ?_
  rintro e wn ⟨rfl, hb⟩
  refine hK _ _ hb ?_
  replace hTc := tab_below hTc hb (tab_pos hTc)
  replace hcur := hcur.trans (hb.mono hcur.size)
  clear hb hK K
  try simp only [Act.put, List.setIfInBounds_toArray, List.set_cons_zero, List.set_cons_succ]
  clear B1
  repeat (first
      | (refine' eager_skip ?_ ?_ ?_
         rotate_left 1
         · simp only [List.getElem?_toArray, List.getElem?_cons_zero, List.getElem?_cons_succ]; exact rfl
         · exact rfl
         simp only [Act.put, List.setIfInBounds_toArray, List.set_cons_zero, List.set_cons_succ])
      | (refine' eager_want ?_ ?_ (fun K hK => ?_)
         rotate_left 1
         · simp only [List.getElem?_toArray, List.getElem?_cons_zero, List.getElem?_cons_succ]; exact rfl
         · exact rfl
         first
         | (refine quiet_load_set _ rfl go 0 A rfl l0 ?_; refine hK _ ?_; clear hK K; try simp only [Act.put, List.setIfInBounds_toArray, List.set_cons_zero, List.set_cons_succ])
         | (refine quiet_load_set _ rfl gt 4 S1 rfl l1 ?_; refine hK _ ?_; clear hK K; try simp only [Act.put, List.setIfInBounds_toArray, List.set_cons_zero, List.set_cons_succ])
         | (refine quiet_load_set _ rfl gt 8 S2 rfl l2 ?_; refine hK _ ?_; clear hK K; try simp only [Act.put, List.setIfInBounds_toArray, List.set_cons_zero, List.set_cons_succ])
         | (refine quiet_load_set _ rfl gt 12 S3 rfl l3 ?_; refine hK _ ?_; clear hK K; try simp only [Act.put, List.setIfInBounds_toArray, List.set_cons_zero, List.set_cons_succ])
         | (go_big_quiet_op; refine hK _ ?_; clear hK K)))
  refine' eager_call ?_ ?_ (fun K hK => ?_)
  rotate_left 1
  · simp only [List.getElem?_toArray, List.getElem?_cons_zero, List.getElem?_cons_succ]; exact rfl
  · exact rfl
  go_simp
  refine hK _ _ ((Below.refl _ _).alloc (Nat.le_refl _) _) ?_
  have B1 : BytesAt (wn.alloc (.cells #[.int .u8 98, .int .u8 99] 5)) (some ⟨wn.heap.size, 0, none⟩) 2 2 [98, 99] := by simpa using bytes_lit wn [98, 99] #[.int .u8 98, .int .u8 99] rfl (by decide) (by decide)
  replace hcur := hcur.alloc hcur.size (.cells #[.int .u8 98, .int .u8 99] 5)
  replace hTc := tab_alloc hTc (.cells #[.int .u8 98, .int .u8 99] 5)
  clear hK K
  try simp only [Act.put, List.setIfInBounds_toArray, List.set_cons_zero, List.set_cons_succ]
  refine' eager_call ?_ ?_ (fun K hK => ?_)
  rotate_left 1
  · simp only [List.getElem?_toArray, List.getElem?_cons_zero, List.getElem?_cons_succ]; exact rfl
  · exact rfl
  go_simp
  refine (o2 _ _ _ B1).mono ?_
  rintro e wn ⟨rfl, hb⟩
  refine hK _ _ hb ?_
  replace hTc := tab_below hTc hb (tab_pos hTc)
  replace hcur := hcur.trans (hb.mono hcur.size)
  clear hb hK K
  try simp only [Act.put, List.setIfInBounds_toArray, List.set_cons_zero, List.set_cons_succ]
  clear B1
  repeat (first
      | (refine' eager_skip ?_ ?_ ?_
         rotate_left 1
         · simp only [List.getElem?_toArray, List.getElem?_cons_zero, List.getElem?_cons_succ]; exact rfl
         · exact rfl
         simp only [Act.put, List.setIfInBounds_toArray, List.set_cons_zero, List.set_cons_succ])
      | (refine' eager_want ?_ ?_ (fun K hK => ?_)
         rotate_left 1
         · simp only [List.getElem?_toArray, List.getElem?_cons_zero, List.getElem?_cons_succ]; exact rfl
         · exact rfl
         first
         | (refine quiet_load_set _ rfl go 0 A rfl l0 ?_; refine hK _ ?_; clear hK K; try simp only [Act.put, List.setIfInBounds_toArray, List.set_cons_zero, List.set_cons_succ])
         | (refine quiet_load_set _ rfl gt 4 S1 rfl l1 ?_; refine hK _ ?_; clear hK K; try simp only [Act.put, List.setIfInBounds_toArray, List.set_cons_zero, List.set_cons_succ])
         | (refine quiet_load_set _ rfl gt 8 S2 rfl l2 ?_; refine hK _ ?_; clear hK K; try simp only [Act.put, List.setIfInBounds_toArray, List.set_cons_zero, List.set_cons_succ])
         | (refine quiet_load_set _ rfl gt 12 S3 rfl l3 ?_; refine hK _ ?_; clear hK K; try simp only [Act.put, List.setIfInBounds_toArray, List.set_cons_zero, List.set_cons_succ])
         | (go_big_quiet_op; refine hK _ ?_; clear hK K)))
  refine' eager_call ?_ ?_ (fun K hK => ?_)
  rotate_left 1
  · simp only [List.getElem?_toArray, List.getElem?_cons_zero, List.getElem?_cons_succ]; exact rfl
  · exact rfl
  go_simp
  refine hK _ _ ((Below.refl _ _).alloc (Nat.le_refl _) _) ?_
  have B1 : BytesAt (wn.alloc (.cells #[.int .u8 100] 5)) (some ⟨wn.heap.size, 0, none⟩) 1 1 [100] := by simpa using bytes_lit wn [100] #[.int .u8 100] rfl (by decide) (by decide)
  replace hcur := hcur.alloc hcur.size (.cells #[.int .u8 100] 5)
  replace hTc := tab_alloc hTc (.cells #[.int .u8 100] 5)
  clear hK K
  try simp only [Act.put, List.setIfInBounds_toArray, List.set_cons_zero, List.set_cons_succ]
  refine' eager_call ?_ ?_ (fun K hK => ?_)
  rotate_left 1
  · simp only [List.getElem?_toArray, List.getElem?_cons_zero, List.getElem?_cons_succ]; exact rfl
  · exact rfl
  go_simp
  refine (o3 _ _ _ B1).mono ?_
  rintro e wn ⟨rfl, hb⟩
  refine hK _ _ hb ?_
  replace hTc := tab_below hTc hb (tab_pos hTc)
  replace hcur := hcur.trans (hb.mono hcur.size)
  clear hb hK K
  try simp only [Act.put, List.setIfInBounds_toArray, List.set_cons_zero, List.set_cons_succ]
  clear B1
  repeat (first
      | (refine' eager_skip ?_ ?_ ?_
         rotate_left 1
         · simp only [List.getElem?_toArray, List.getElem?_cons_zero, List.getElem?_cons_succ]; exact rfl
         · exact rfl
         simp only [Act.put, List.setIfInBounds_toArray, List.set_cons_zero, List.set_cons_succ])
      | (refine' eager_want ?_ ?_ (fun K hK => ?_)
         rotate_left 1
         · simp only [List.getElem?_toArray, List.getElem?_cons_zero, List.getElem?_cons_succ]; exact rfl
         · exact rfl
         first
         | (refine quiet_load_set _ rfl go 0 A rfl l0 ?_; refine hK _ ?_; clear hK K; try simp only [Act.put, List.setIfInBounds_toArray, List.set_cons_zero, List.set_cons_succ])
         | (refine quiet_load_set _ rfl gt 4 S1 rfl l1 ?_; refine hK _ ?_; clear hK K; try simp only [Act.put, List.setIfInBounds_toArray, List.set_cons_zero, List.set_cons_succ])
         | (refine quiet_load_set _ rfl gt 8 S2 rfl l2 ?_; refine hK _ ?_; clear hK K; try simp only [Act.put, List.setIfInBounds_toArray, List.set_cons_zero, List.set_cons_succ])
         | (refine quiet_load_set _ rfl gt 12 S3 rfl l3 ?_; refine hK _ ?_; clear hK K; try simp only [Act.put, List.setIfInBounds_toArray, List.set_cons_zero, List.set_cons_succ])
         | (go_big_quiet_op; refine hK _ ?_; clear hK K)))
  refine' eager_call ?_ ?_ (fun K hK => ?_)
  rotate_left 1
  · simp only [List.getElem?_toArray, List.getElem?_cons_zero, List.getElem?_cons_succ]; exact rfl
  · exact rfl
  go_simp
  refine hK _ _ ((Below.refl _ _).alloc (Nat.le_refl _) _) ?_
  have B1 : BytesAt (wn.alloc (.cells #[.int .u8 113] 5)) (some ⟨wn.heap.size, 0, none⟩) 1 1 [113] := by simpa using bytes_lit wn [113] #[.int .u8 113] rfl (by decide) (by decide)
  replace hcur := hcur.alloc hcur.size (.cells #[.int .u8 113] 5)
  replace hTc := tab_alloc hTc (.cells #[.int .u8 113] 5)
  clear hK K
  try simp only [Act.put, List.setIfInBounds_toArray, List.set_cons_zero, List.set_cons_succ]
  refine' eager_call ?_ ?_ (fun K hK => ?_)
  rotate_left 1
  · simp only [List.getElem?_toArray, List.getElem?_cons_zero, List.getElem?_cons_succ]; exact rfl
  · exact rfl
  go_simp
  refine (oQ _ _ _ B1).mono ?_
  rintro e wn ⟨rfl, hb⟩
  refine hK _ _ hb ?_
  replace hTc := tab_below hTc hb (tab_pos hTc)
  replace hcur := hcur.trans (hb.mono hcur.size)
  clear hb hK K
  try simp only [Act.put, List.setIfInBounds_toArray, List.set_cons_zero, List.set_cons_succ]
  clear B1
  refine' eager_call ?_ ?_ (fun K hK => ?_)
  rotate_left 1
  · simp only [List.getElem?_toArray, List.getElem?_cons_zero, List.getElem?_cons_succ]; exact rfl
  · exact rfl
  go_simp
  refine hK _ _ ((Below.refl _ _).alloc (Nat.le_refl _) _) ?_
  have hsq := sets_lit wn [0, Q] #[.int .u64 0, .int .u64 0, .int .u64 0, .int .u64 0, .int .u64 (word Q 0), .int .u64 (word Q 1), .int .u64 (word Q 2), .int .u64 (word Q 3)] (by rw [hz0]) (by simp [maxLen])
  replace hcur := hcur.alloc hcur.size (.cells #[.int .u64 0, .int .u64 0, .int .u64 0, .int .u64 0, .int .u64 (word Q 0), .int .u64 (word Q 1), .int .u64 (word Q 2), .int .u64 (word Q 3)] 27)
  replace hTc := tab_alloc hTc (.cells #[.int .u64 0, .int .u64 0, .int .u64 0, .int .u64 0, .int .u64 (word Q 0), .int .u64 (word Q 1), .int .u64 (word Q 2), .int .u64 (word Q 3)] 27)
  clear hK K
  try simp only [Act.put, List.setIfInBounds_toArray, List.set_cons_zero, List.set_cons_succ]
  refine' eager_call_new ?_ ?_ (fun K hK => ?_)
  rotate_left 1
  · simp only [List.getElem?_toArray, List.getElem?_cons_zero, List.getElem?_cons_succ]; exact rfl
  · exact rfl
  go_simp
  refine (hH _ _ hsq hTc).mono ?_
  rintro e wn ⟨la, lcap, rfl, hb, hlist⟩
  refine hK _ _ hb ?_
  replace hTc := tab_below hTc hb (tab_pos hTc)
  replace hcur := hcur.trans (hb.mono hcur.size)
  have hne1 := Later.nonempty wn
  clear hb hK K
  try simp only [Act.put, List.setIfInBounds_toArray, List.set_cons_zero, List.set_cons_succ]
  clear hsq hlist l0 l1 l2 l3
  repeat (first
      | (refine' eager_skip ?_ ?_ ?_
         rotate_left 1
         · simp only [List.getElem?_toArray, List.getElem?_cons_zero, List.getElem?_cons_succ]; exact rfl
         · exact rfl
         simp only [Act.put, List.setIfInBounds_toArray, List.set_cons_zero, List.set_cons_succ])
      | (refine' eager_want ?_ ?_ (fun K hK => ?_)
         rotate_left 1
         · simp only [List.getElem?_toArray, List.getElem?_cons_zero, List.getElem?_cons_succ]; exact rfl
         · exact rfl
         first
         | (go_big_quiet_op; refine hK _ ?_; clear hK K)))
  have hwb := Nat.le_refl wn.heap.size
  have hsz9 := hcur.size
  obtain ⟨wb, rfl⟩ : ∃ wb : World, wb = wn := ⟨_, rfl⟩
  refine' eager_call ?_ ?_ (fun K hK => ?_)
  rotate_left 1
  · simp only [List.getElem?_toArray, List.getElem?_cons_zero, List.getElem?_cons_succ]; exact rfl
  · exact rfl
  go_simp
  refine hK _ _ ((Below.refl _ _).alloc (Nat.le_refl _) _) ?_
  have B1 : BytesAt (wb.alloc (.cells #[.int .u8 99, .int .u8 97, .int .u8 100, .int .u8 33] 5)) (some ⟨wb.heap.size, 0, none⟩) 4 4 [99, 97, 100, 33] := by simpa using bytes_lit wb [99, 97, 100, 33] #[.int .u8 99, .int .u8 97, .int .u8 100, .int .u8 33] rfl (by decide) (by decide)
  replace hcur := hcur.alloc hcur.size (.cells #[.int .u8 99, .int .u8 97, .int .u8 100, .int .u8 33] 5)
  replace hTc := tab_alloc hTc (.cells #[.int .u8 99, .int .u8 97, .int .u8 100, .int .u8 33] 5)
  clear hK K
  try simp only [Act.put, List.setIfInBounds_toArray, List.set_cons_zero, List.set_cons_succ]
  have hblk : (wb.alloc (.cells #[.int .u8 99, .int .u8 97, .int .u8 100, .int .u8 33] 5)).heap[wb.heap.size]? = some (.cells #[.int .u8 99, .int .u8 97, .int .u8 100, .int .u8 33] 5 (0, 0)) := heap_alloc_new wb _
  refine' eager_write ?_ ?_ (fun K hK => ?_)
  rotate_left 1
  · simp only [List.getElem?_toArray, List.getElem?_cons_zero, List.getElem?_cons_succ]; exact rfl
  · exact rfl
  refine wp_conv_bytes _ rfl wb.heap.size 4 4 #[.int .u8 99, .int .u8 97, .int .u8 100, .int .u8 33] 5 rfl hblk ?_
  intro wn ho hcl
  have hfz := ho.below (Below.refl _ _) hwb
  refine hK _ _ hfz ?_
  have B1 := bytesAt_cells B1 hcl (by rw [ho.size]; exact Nat.le_refl _)
  replace hcur := ho.below hcur hsz9
  replace hTc := tab_below hT9 hcur (tab_pos hT9)
  clear hK K
  try simp only [Act.put, List.setIfInBounds_toArray, List.set_cons_zero, List.set_cons_succ]
  clear hblk
  repeat (first
      | (refine' eager_skip ?_ ?_ ?_
         rotate_left 1
         · simp only [List.getElem?_toArray, List.getElem?_cons_zero, List.getElem?_cons_succ]; exact rfl
         · exact rfl
         simp only [Act.put, List.setIfInBounds_toArray, List.set_cons_zero, List.set_cons_succ])
      | (refine' eager_want ?_ ?_ (fun K hK => ?_)
         rotate_left 1
         · simp only [List.getElem?_toArray, List.getElem?_cons_zero, List.getElem?_cons_succ]; exact rfl
         · exact rfl
         first
         | (go_big_quiet_op; refine hK _ ?_; clear hK K)))
  refine' eager_call_new ?_ ?_ (fun K hK => ?_)
  rotate_left 1
  · simp only [List.getElem?_toArray, List.getElem?_cons_zero, List.getElem?_cons_succ]; exact rfl
  · exact rfl
  go_simp
  refine (hM _ _ _ _ (ht9.below hcur rfl) B1 hTc).mono ?_
  rintro e wn ⟨ma, mcap, rfl, hb, hlist⟩
  refine hK _ _ hb ?_
  replace hTc := tab_below hTc hb (tab_pos hTc)
  replace hcur := hcur.trans (hb.mono hcur.size)
  have hne2 := Later.nonempty wn
  have hbs : ∀ w', (∃ L : Later wn, w' = L.val) → BytesAt w' ma 4 mcap [98, 97, 100, 0] := fun w' hw' => by obtain ⟨L, rfl⟩ := hw'; exact hlist L.val L.ok
  clear hb hK K
  try simp only [Act.put, List.setIfInBounds_toArray, List.set_cons_zero, List.set_cons_succ]
  clear B1
  refine' eager_want ?_ ?_ (fun K hK => ?_)
  rotate_left 1
  · simp only [List.getElem?_toArray, List.getElem?_cons_zero, List.getElem?_cons_succ]; exact rfl
  · exact rfl
  refine quiet_string _ rfl _ _ _ rfl [98, 97, 100, 0] hbs ?_
  refine hK _ ?_
  clear hK K
  try simp only [Act.put, List.setIfInBounds_toArray, List.set_cons_zero, List.set_cons_succ]
  clear hbs hlist
  repeat (first
      | (refine' eager_skip ?_ ?_ ?_
         rotate_left 1
         · simp only [List.getElem?_toArray, List.getElem?_cons_zero, List.getElem?_cons_succ]; exact rfl
         · exact rfl
         simp only [Act.put, List.setIfInBounds_toArray, List.set_cons_zero, List.set_cons_succ])
      | (refine' eager_want ?_ ?_ (fun K hK => ?_)
         rotate_left 1
         · simp only [List.getElem?_toArray, List.getElem?_cons_zero, List.getElem?_cons_succ]; exact rfl
         · exact rfl
         first
         | (go_big_quiet_op; refine hK _ ?_; clear hK K)))
  have hwb := Nat.le_refl wn.heap.size
  have hsz9 := hcur.size
  obtain ⟨wb, rfl⟩ : ∃ wb : World, wb = wn := ⟨_, rfl⟩
  refine' eager_call ?_ ?_ (fun K hK => ?_)
  rotate_left 1
  · simp only [List.getElem?_toArray, List.getElem?_cons_zero, List.getElem?_cons_succ]; exact rfl
  · exact rfl
  go_simp
  refine hK _ _ ((Below.refl _ _).alloc (Nat.le_refl _) _) ?_
  have B1 : BytesAt (wb.alloc (.cells #[.int .u8 120, .int .u8 121] 5)) (some ⟨wb.heap.size, 0, none⟩) 2 2 [120, 121] := by simpa using bytes_lit wb [120, 121] #[.int .u8 120, .int .u8 121] rfl (by decide) (by decide)
  replace hcur := hcur.alloc hcur.size (.cells #[.int .u8 120, .int .u8 121] 5)
  replace hTc := tab_alloc hTc (.cells #[.int .u8 120, .int .u8 121] 5)
  clear hK K
  try simp only [Act.put, List.setIfInBounds_toArray, List.set_cons_zero, List.set_cons_succ]
  have hblk : (wb.alloc (.cells #[.int .u8 120, .int .u8 121] 5)).heap[wb.heap.size]? = some (.cells #[.int .u8 120, .int .u8 121] 5 (0, 0)) := heap_alloc_new wb _
  refine' eager_write ?_ ?_ (fun K hK => ?_)
  rotate_left 1
  · simp only [List.getElem?_toArray, List.getElem?_cons_zero, List.getElem?_cons_succ]; exact rfl
  · exact rfl
  refine wp_conv_bytes _ rfl wb.heap.size 2 2 #[.int .u8 120, .int .u8 121] 5 rfl hblk ?_
  intro wn ho hcl
  have hfz := ho.below (Below.refl _ _) hwb
  refine hK _ _ hfz ?_
  have B1 := bytesAt_cells B1 hcl (by rw [ho.size]; exact Nat.le_refl _)
  replace hcur := ho.below hcur hsz9
  replace hTc := tab_below hT9 hcur (tab_pos hT9)
  clear hK K
  try simp only [Act.put, List.setIfInBounds_toArray, List.set_cons_zero, List.set_cons_succ]
  clear hblk
  repeat (first
      | (refine' eager_skip ?_ ?_ ?_
         rotate_left 1
         · simp only [List.getElem?_toArray, List.getElem?_cons_zero, List.getElem?_cons_succ]; exact rfl
         · exact rfl
         simp only [Act.put, List.setIfInBounds_toArray, List.set_cons_zero, List.set_cons_succ])
      | (refine' eager_want ?_ ?_ (fun K hK => ?_)
         rotate_left 1
         · simp only [List.getElem?_toArray, List.getElem?_cons_zero, List.getElem?_cons_succ]; exact rfl
         · exact rfl
         first
         | (go_big_quiet_op; refine hK _ ?_; clear hK K)))
  refine' eager_call_new ?_ ?_ (fun K hK => ?_)
  rotate_left 1
  · simp only [List.getElem?_toArray, List.getElem?_cons_zero, List.getElem?_cons_succ]; exact rfl
  · exact rfl
  go_simp
  refine (hM2 _ _ B1 hTc).mono ?_
  rintro e wn ⟨na, ncap, rfl, hb, hlist⟩
  refine hK _ _ hb ?_
  replace hTc := tab_below hTc hb (tab_pos hTc)
  replace hcur := hcur.trans (hb.mono hcur.size)
  have hne3 := Later.nonempty wn
  have hbs : ∀ w', (∃ L : Later wn, w' = L.val) → BytesAt w' na 2 ncap [120, 121] := fun w' hw' => by obtain ⟨L, rfl⟩ := hw'; exact hlist L.val L.ok
  clear hb hK K
  try simp only [Act.put, List.setIfInBounds_toArray, List.set_cons_zero, List.set_cons_succ]
  clear B1
  refine' eager_want ?_ ?_ (fun K hK => ?_)
  rotate_left 1
  · simp only [List.getElem?_toArray, List.getElem?_cons_zero, List.getElem?_cons_succ]; exact rfl
  · exact rfl
  refine quiet_string _ rfl _ _ _ rfl [120, 121] hbs ?_
  refine hK _ ?_
  clear hK K
  try simp only [Act.put, List.setIfInBounds_toArray, List.set_cons_zero, List.set_cons_succ]
  clear hbs hlist
  repeat (first
      | (refine' eager_skip ?_ ?_ ?_
         rotate_left 1
         · simp only [List.getElem?_toArray, List.getElem?_cons_zero, List.getElem?_cons_succ]; exact rfl
         · exact rfl
         simp only [Act.put, List.setIfInBounds_toArray, List.set_cons_zero, List.set_cons_succ])
      | (refine' eager_want ?_ ?_ (fun K hK => ?_)
         rotate_left 1
         · simp only [List.getElem?_toArray, List.getElem?_cons_zero, List.getElem?_cons_succ]; exact rfl
         · exact rfl
         first
         | (go_big_quiet_op; refine hK _ ?_; clear hK K)))
  refine eager_done ?_
  go_wp2_with fail
  go_ret
  exact ⟨rfl, hbw9.trans (hcur.mono hbw9.size)⟩
end Go.Proofs.YtnhlopbpggdneaaDoor
