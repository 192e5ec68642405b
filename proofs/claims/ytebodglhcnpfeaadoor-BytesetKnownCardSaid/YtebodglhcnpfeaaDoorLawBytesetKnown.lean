/- The walk of what chapter 1 says of none, of all, of ends. -/
import Derived.Test.YtebodglhcnpfeaaDoorLawBytesetList
import Derived.Test.YtebodglhcnpfeaaDoorEager
namespace Go.Proofs.YtebodglhcnpfeaaDoor
open Go.RowKit

theorem known_lists : elems (setOf []) = [] ∧ (elems (BitVec.allOnes 256)).length = 256 ∧ elems (setOf [255, 64, 0]) = [0, 64, 255] ∧ runsOf (elems (setOf [0, 1, 255])) = [(0, 1), (255, 255)] ∧ elems (setOf [9, 3, 9]) = [3, 9] ∧
    runsOf (elems (BitVec.allOnes 256)) = [(0, 255)] ∧ runsOf (elems (setOf [])) = [] := by decide +kernel
theorem known_sets : ~~~(BitVec.allOnes 256) = setOf [] ∧ ~~~(setOf []) = BitVec.allOnes 256 ∧ setOf (upTo 99 97) = setOf [] ∧ setOf (upTo 0 255) = BitVec.allOnes 256 ∧ (BitVec.allOnes 256).getLsbD 255 = true ∧ word (setOf [64]) 1 = 1 ∧ setOf [] = 0 := by decide +kernel
theorem known_cmps : cmpNat (elems (setOf [])) (elems (setOf [0])) = -1 ∧ cmpNat (elems (setOf [1])) (elems (setOf [0, 200])) = 1 ∧ cmpNat (elems (BitVec.allOnes 256)) (elems (BitVec.allOnes 256)) = 0 := by decide +kernel
theorem bytes_lit (w : World) (l : List Nat) (cs : Array Value) (h : cs.toList = l.map u8v) (hl : ∀ x ∈ l, x < 256) (hn : l.length ≤ maxLen) : BytesAt (w.alloc (.cells cs 5)) (some ⟨w.heap.size, 0, none⟩) l.length l.length l := by
  refine ⟨rfl, hl, hn, .inr ⟨w.heap.size, 0, rfl, Nat.le_refl _, by simp, fun j hj => ?_⟩⟩
  have hc : cs[j]? = some (u8v (l.getD j 0)) := by
    rw [← Array.getElem?_toList, h, List.getElem?_map, List.getElem?_eq_getElem hj, List.getD_eq_getElem?_getD, List.getElem?_eq_getElem hj]; rfl
  simp [hc]
def knownPlan : Plan := (.plain 0 (.plain 1 (.plain 2 (.plain 3 (.plain 4 (.plain 5 (.plain 6 (.plain 7 (.plain 8 (.plain 9 (.plain 10 (.plain 11 (.plain 12 (.plain 13 (.plain 14 (.plain 15 (.sole 16 (.plain 17 (.plain 18 (.plain 19 (.plain 20 (.plain 22 (.sole 21 (.plain 23 (.plain 24 (.plain 25 (.plain 26 (.plain 28 (.sole 27 (.plain 29 (.plain 30 (.plain 31 (.plain 32 (.sole 33 (.plain 34 (.plain 35 (.plain 36 (.plain 37 (.plain 38 (.sole 39 (.plain 40 (.plain 41 (.plain 42 (.plain 43 (.plain 44 (.plain 45 (.plain 46 (.plain 47 (.plain 48 (.plain 49 (.plain 50 (.plain 51 (.plain 52 (.plain 53 (.plain 54 (.plain 55 (.plain 57 (.sole 56 (.plain 58 (.plain 59 (.plain 60 (.plain 62 (.sole 61 (.plain 63 (.plain 64 (.plain 65 (.plain 66 (.plain 67 (.plain 68 (.plain 69 (.plain 70 (.plain 71 (.plain 72 (.plain 73 (.plain 74 (.plain 75 (.plain 76 (.plain 77 (.sole 78 (.plain 79 (.plain 80 (.sole 81 (.sole 82 (.plain 83 (.plain 84 (.plain 85 (.plain 86 (.plain 87 (.sole 88 (.sole 89 (.sole 90 (.plain 91 (.plain 92 (.plain 93 (.fork 94 (.fork 95 (.sole 96 (.sole 97 (.sole 98 (.plain 99 (.plain 100 (.plain 101 (.plain 102 (.plain 103 (.sole 104 (.plain 105 (.plain 106 (.plain 107 .done)))))))))))) 96 (.sole 95 (.sole 97 (.sole 98 (.plain 99 (.plain 100 (.plain 101 (.plain 102 (.plain 103 (.sole 104 (.plain 105 (.plain 106 (.plain 107 .done))))))))))))) 96 (.sole 94 (.sole 95 (.sole 97 (.sole 98 (.plain 99 (.plain 100 (.plain 101 (.plain 102 (.plain 103 (.sole 104 (.plain 105 (.plain 106 (.plain 107 .done))))))))))))))))))))))))))))))))))))))))))))))))))))))))))))))))))))))))))))))))))))))))))))))))))))))))))))
theorem bytes_keep {w w' : World} {a : Option Addr} {n cap : Nat} {l : List Nat} (h : BytesAt w a n cap l) (hb : Below w.heap.size w w') : BytesAt w' a n cap l := by
  obtain ⟨h1, h2, h3, h4⟩ := h
  refine ⟨h1, h2, h3, ?_⟩
  rcases h4 with h4 | ⟨b, off, e, hc, hlt, hr⟩
  · exact .inl h4
  · exact .inr ⟨b, off, e, hc, Nat.lt_of_lt_of_le hlt hb.size, fun j hj => (hb.cell (p := ⟨b, off + j, none⟩) hlt).trans (hr j hj)⟩
theorem setAt_fresh (w : World) (s : BitVec 256) : SetAt (w.alloc (.cells #[.int .u64 (word s 0), .int .u64 (word s 1), .int .u64 (word s 2), .int .u64 (word s 3)] 25 (0, 0))) w.heap.size s := by
  unfold SetAt World.alloc
  simp
theorem setAt_later {w w' : World} {b B : Nat} {s : BitVec 256} (h : SetAt w b s) (hb : Below B w w') (hB : b < B) : SetAt w' b s := by
  unfold SetAt at *
  rw [hb.block b hB]; exact h
set_option maxRecDepth 100000 in
set_option maxHeartbeats 4000000 in
theorem bytesetKnown_walk (w : World) (hT : TabAt 0 Lib.deBruijn64tab w) :
    Calls Tryd.prog 3 #[] w fun e w' => e = .returned (.bool true) ∧ Below w.heap.size w w' := by
  obtain ⟨f1, f2, f3, f4, f5, f6, f7⟩ := known_lists
  obtain ⟨g1, g2, g3, g4, g5, g6, g7⟩ := known_sets
  obtain ⟨c1, c2, c3⟩ := known_cmps
  have oN := fun w => of_any none 0 0 [] w ⟨rfl, by simp, by decide, .inl rfl⟩
  have o1 := fun (a : Option Addr) (cap : Nat) (w : World) h => of_any a 3 cap [255, 64, 0] w h
  have o2 := fun (a : Option Addr) (cap : Nat) (w : World) h => of_any a 3 cap [0, 1, 255] w h
  have o3 := fun (a : Option Addr) (cap : Nat) (w : World) h => of_any a 3 cap [9, 3, 9] w h
  have o4 := fun (a : Option Addr) (cap : Nat) (w : World) h => of_any a 1 cap [64] w h
  have o5 := fun (a : Option Addr) (cap : Nat) (w : World) h => of_any a 1 cap [0] w h
  have o6 := fun (a : Option Addr) (cap : Nat) (w : World) h => of_any a 1 cap [1] w h
  have o7 := fun (a : Option Addr) (cap : Nat) (w : World) h => of_any a 2 cap [0, 200] w h
  have oA := all_any
  have q1 := range_lit 99 97 99 97 rfl rfl (by decide) (by decide)
  have q2 := range_lit 0 255 0 255 rfl rfl (by decide) (by decide)
  rw [g3] at q1
  rw [g4] at q2
  obtain ⟨N, eN⟩ : ∃ s, s = setOf [] := ⟨_, rfl⟩
  obtain ⟨F1, eF1⟩ : ∃ s, s = setOf [255, 64, 0] := ⟨_, rfl⟩
  obtain ⟨F2, eF2⟩ : ∃ s, s = setOf [0, 1, 255] := ⟨_, rfl⟩
  obtain ⟨F3, eF3⟩ : ∃ s, s = setOf [9, 3, 9] := ⟨_, rfl⟩
  obtain ⟨F4, eF4⟩ : ∃ s, s = setOf [64] := ⟨_, rfl⟩
  obtain ⟨F5, eF5⟩ : ∃ s, s = setOf [0] := ⟨_, rfl⟩
  obtain ⟨F6, eF6⟩ : ∃ s, s = setOf [1] := ⟨_, rfl⟩
  obtain ⟨F7, eF7⟩ : ∃ s, s = setOf [0, 200] := ⟨_, rfl⟩
  obtain ⟨A, eA⟩ : ∃ s, s = BitVec.allOnes 256 := ⟨_, rfl⟩
  rw [← eN] at f1 f7 g1 g2 g7 c1 oN q1
  rw [← eA] at f2 f6 g1 g2 g5 c3 oA q2
  rw [← eF1] at f3 o1
  rw [← eF2] at f4 o2
  rw [← eF3] at f5 o3
  rw [← eF4] at g6 o4
  rw [← eF5] at c1 o5
  rw [← eF6] at c2 o6
  rw [← eF7] at c2 o7
  have lN : ∀ w, TabAt 0 Lib.deBruijn64tab w → Calls Tryd.prog 11 #[SV N] w fun e w' => e = .returned (.tuple #[.int .u8 0, .bool false]) ∧ Below w.heap.size w w' := by
    intro w h
    have := least_any N w h
    rw [f1] at this
    exact this
  have lF : ∀ w, TabAt 0 Lib.deBruijn64tab w → Calls Tryd.prog 11 #[SV F1] w fun e w' => e = .returned (.tuple #[.int .u8 0, .bool true]) ∧ Below w.heap.size w w' := by
    intro w h
    have := least_any F1 w h
    rw [f3] at this
    exact this
  have rF := runs_at F2
  rw [f4] at rF
  have sF := list_at F3
  rw [f5] at sF
  have rN := runs_at N
  rw [f7] at rN
  have rA := runs_at A
  rw [f6] at rA
  have nA := not_any A
  rw [g1] at nA
  have nN := not_any N
  rw [g2] at nN
  have lenA := len_any A
  rw [f2] at lenA
  have hasA := has_lit A 255 255 rfl (by decide)
  rw [g5] at hasA
  have k1 := cmp_any N F5
  rw [c1] at k1
  have k2 := cmp_any F6 F7
  rw [c2] at k2
  have k3 := cmp_any A A
  rw [c3] at k3
  have e1 := eql_same N
  have e2 := eql_same A
  have z0 : SV (0 : BitVec 256) = .agg #[.int .u64 0, .int .u64 0, .int .u64 0, .int .u64 0] := by
    show Value.agg #[.int .u64 (word 0 0), .int .u64 (word 0 1), .int .u64 (word 0 2), .int .u64 (word 0 3)] = _
    rw [word_zero, word_zero, word_zero, word_zero]; rfl
  have e4 : ∀ w, (Op.equalIn 10000 25 (SV N) (.agg #[.int .u64 0, .int .u64 0, .int .u64 0, .int .u64 0])).run Tryd.prog w = .ok true w := by rw [← z0, g7]; exact eql_same 0
  have w4 : ((word F4 1 : Int) == 1) = true := by rw [g6]; rfl
  clear f1 f2 f3 f4 f5 f6 f7 g1 g2 g3 g4 g5 g6 g7 c1 c2 c3 eN eA eF1 eF2 eF3 eF4 eF5 eF6 eF7 z0
  go_enter Tryd.func3, Tryd.ntmps3
  go_wp2_with fail
  refine (awake_any _ hT).mono ?_
  rintro e w1 ⟨rfl, hb1⟩
  have hT1 := tab_below hT hb1 (tab_pos hT)
  go_wp2_with fail
  refine (oN _).mono ?_
  rintro e w2 ⟨rfl, hb2⟩
  have hT2 := tab_below hT1 hb2 (tab_pos hT1)
  go_wp2_with fail
  refine (oA _).mono ?_
  rintro e w3 ⟨rfl, hb3⟩
  have hT3 := tab_below hT2 hb3 (tab_pos hT2)
  have hbw3 := (hb1.trans (hb2.mono hb1.size)).trans (hb3.mono (hb1.trans (hb2.mono hb1.size)).size)
  have hN0 := setAt_alloc (setAt_fresh w3 N) (.cells #[.int .u64 (word A 0), .int .u64 (word A 1), .int .u64 (word A 2), .int .u64 (word A 3)] 25)
  have hA0 := setAt_fresh (w3.alloc (.cells #[.int .u64 (word N 0), .int .u64 (word N 1), .int .u64 (word N 2), .int .u64 (word N 3)] 25)) A
  clear hb1 hb2 hb3 hT1 hT2
  have hT4 := fun o1 o2 => tab_alloc (tab_alloc hT3 o1) o2
  go_wp2_with fail
  refine (lN _ (hT4 _ _)).mono ?_
  rintro e w4 ⟨rfl, hb4⟩
  have hz4 : w3.heap.size + 1 < w4.heap.size := by have := hb4.size; simp at this; omega
  have hN := setAt_later hN0 hb4 (by simp; omega)
  have hA := setAt_later hA0 hb4 (by simp)
  have hbw4 : Below w.heap.size w w4 := by
    refine Below.trans ?_ (hb4.mono (by have := hbw3.size; simp; omega))
    exact (hbw3.alloc hbw3.size _).alloc (by have := hbw3.size; simp; omega) _
  have hT5 := tab_below (hT4 _ _) hb4 (by simp)
  simp at hA
  clear hb4 hN0 hA0 hbw3 hT3 hT4
  have b1 := bytes_lit w4 [255, 64, 0] #[.int .u8 255, .int .u8 64, .int .u8 0] rfl (by decide) (by decide)
  go_wp2_with fail
  refine (o1 _ _ _ b1).mono ?_
  rintro e w5 ⟨rfl, hb5⟩
  have hT6 := tab_below (tab_alloc hT5 _) hb5 (by simp)
  go_wp2_with fail
  refine (lF _ hT6).mono ?_
  rintro e w6 ⟨rfl, hb6⟩
  have hT7 := tab_below hT6 hb6 (tab_pos hT6)
  have h46 : Below w4.heap.size w4 w6 := (((Below.refl _ _).alloc (Nat.le_refl _) _).trans (hb5.mono (by simp))).trans (hb6.mono (by have := hb5.size; simp at this; omega))
  clear hb5 hb6 hT5 hT6 b1
  have b2 := bytes_lit w6 [0, 1, 255] #[.int .u8 0, .int .u8 1, .int .u8 255] rfl (by decide) (by decide)
  go_wp2_with fail
  refine (o2 _ _ _ b2).mono ?_
  rintro e w7 ⟨rfl, hb7⟩
  have hT8 := tab_below (tab_alloc hT7 _) hb7 (by simp)
  go_wp2_with fail
  refine (rF _ hT8).mono ?_
  rintro e w8 ⟨ra, rcap, rfl, hb8, _, hruns⟩
  have hT9 := tab_below hT8 hb8 (tab_pos hT8)
  have h48 : Below w4.heap.size w4 w8 := h46.trans ((((Below.refl _ _).alloc (Nat.le_refl _) _).trans (hb7.mono (by simp))).trans (hb8.mono (by have := hb7.size; simp at this; omega)) |>.mono h46.size)
  clear hb7 hb8 hT7 hT8 b2
  have b3 := bytes_lit w8 [9, 3, 9] #[.int .u8 9, .int .u8 3, .int .u8 9] rfl (by decide) (by decide)
  go_wp2_with fail
  refine (o3 _ _ _ b3).mono ?_
  rintro e w9 ⟨rfl, hb9⟩
  have hT10 := tab_below (tab_alloc hT9 _) hb9 (by simp)
  go_wp2_with fail
  refine (sF _ hT10).mono ?_
  rintro e w10 ⟨la, lcap, rfl, hb10, hlist⟩
  have hT11 := tab_below hT10 hb10 (tab_pos hT10)
  have h810 : Below w8.heap.size w8 w10 := (((Below.refl _ _).alloc (Nat.le_refl _) _).trans (hb9.mono (by simp))).trans (hb10.mono (by have := hb9.size; simp at this; omega))
  have h410 := h48.trans (h810.mono h48.size)
  clear hb9 hb10 hT9 hT10 b3
  obtain ⟨g, rfl, hg8, hg9, hcapr, hr0, hr1⟩ := hruns 1 (by decide)
  have hN10 := setAt_later hN h410 (by omega)
  have hA10 := setAt_later hA h410 (by omega)
  have m0 := fun L : Later w10 => (setAt_later hN10 L.ok (by have := h410.size; omega)).cell 0 (by decide)
  have m1 := fun L : Later w10 => (setAt_later hN10 L.ok (by have := h410.size; omega)).cell 1 (by decide)
  have m2 := fun L : Later w10 => (setAt_later hN10 L.ok (by have := h410.size; omega)).cell 2 (by decide)
  have m3 := fun L : Later w10 => (setAt_later hN10 L.ok (by have := h410.size; omega)).cell 3 (by decide)
  have p0 := fun L : Later w10 => (setAt_later hA10 L.ok (by have := h410.size; omega)).cell 0 (by decide)
  have p1 := fun L : Later w10 => (setAt_later hA10 L.ok (by have := h410.size; omega)).cell 1 (by decide)
  have p2 := fun L : Later w10 => (setAt_later hA10 L.ok (by have := h410.size; omega)).cell 2 (by decide)
  have p3 := fun L : Later w10 => (setAt_later hA10 L.ok (by have := h410.size; omega)).cell 3 (by decide)
  have r0 : ∀ L : Later w10, L.val.cell? ⟨g, 2, none⟩ = some (.int .u8 255) := fun L => by rw [(h810.trans (L.ok.mono h810.size)).cell (p := ⟨g, 2, none⟩) hg9]; exact hr0
  have r1 : ∀ L : Later w10, L.val.cell? ⟨g, 3, none⟩ = some (.int .u8 255) := fun L => by rw [(h810.trans (L.ok.mono h810.size)).cell (p := ⟨g, 3, none⟩) hg9]; exact hr1
  obtain ⟨gl, offl, rfl, hcapl⟩ : ∃ g off, la = some ⟨g, off, none⟩ ∧ 2 ≤ lcap := by
    rcases (hlist w10 (Below.refl _ _)).2.2.2 with h | ⟨g, off, h1, h2, _⟩
    · simp at h
    · exact ⟨g, off, h1, h2⟩
  have l0 : ∀ L : Later w10, L.val.cell? ⟨gl, offl, none⟩ = some (.int .u8 3) := by
    intro L
    rcases (hlist L.val L.ok).2.2.2 with h | ⟨g', off', h1, _, _, h3⟩
    · simp at h
    · cases h1; exact h3 0 (by decide)
  have hbw10 := hbw4.trans (h410.mono hbw4.size)
  clear hN hA hN10 hA10 hruns hlist hr0 hr1 h810 h410 h48 h46 hbw4 hg8 hg9 hz4 lN lF rF sF o1 o2 o3 oA oN
  simp at hcapr
  go_wp2_with fail
  simp only [List.append]
  have hne := Later.nonempty w10
  have i1 := idx1
  refine wp_region_eager knownPlan (W0 := w10) (Below.refl _ _) (by kernel_rfl) ?fit (fun c a d v w h => by cases d <;> exact h) ?_
  case fit =>
    as_aux_lemma =>
      refine eagerB_of (n := 108) (by kernel_rfl) (by kernel_rfl) ?_
      unfold knownPlan
      simp only [List.replicate]
      repeat (first
        | exact fits_done (by as_aux_lemma => kernel_rfl)
        | (refine fits_plain (by as_aux_lemma => kernel_rfl) ?_; simp only [List.setIfInBounds_toArray, List.set_cons_zero, List.set_cons_succ])
        | (refine fits_sole (by as_aux_lemma => kernel_rfl) ?_; simp only [List.setIfInBounds_toArray, List.set_cons_zero, List.set_cons_succ])
        | (refine fits_fork (by as_aux_lemma => kernel_rfl) ?_ ?_ <;> simp only [List.setIfInBounds_toArray, List.set_cons_zero, List.set_cons_succ]))
  unfold knownPlan
  have hTc := tab_drew hT11
  have hcur := (Below.refl w10.heap.size w10).drew
  repeat (first
      | (refine' eager_skip ?_ ?_ ?_
         rotate_left 1
         · simp only [List.getElem?_toArray, List.getElem?_cons_zero, List.getElem?_cons_succ]; exact rfl
         · exact rfl
         simp only [Act.put, List.setIfInBounds_toArray, List.set_cons_zero, List.set_cons_succ])
      | (refine' eager_want ?_ ?_ (fun K hK => ?_)
         rotate_left 1
         · simp only [List.getElem?_toArray, List.getElem?_cons_zero, List.getElem?_cons_succ]; exact rfl
         · exact rfl
         go_big_quiet_op
         refine hK _ ?_
         clear hK K))
  refine' eager_call ?_ ?_ (fun K hK => ?_)
  rotate_left 1
  · simp only [List.getElem?_toArray, List.getElem?_cons_zero, List.getElem?_cons_succ]; exact rfl
  · exact rfl
  go_simp
  refine (lenA _).mono ?_
  rintro e wn ⟨rfl, hb⟩
  refine hK _ _ hb ?_
  replace hTc := tab_below hTc hb (tab_pos hTc)
  replace hcur := hcur.trans (hb.mono hcur.size)
  clear hb hK K
  repeat (first
      | (refine' eager_skip ?_ ?_ ?_
         rotate_left 1
         · simp only [List.getElem?_toArray, List.getElem?_cons_zero, List.getElem?_cons_succ]; exact rfl
         · exact rfl
         simp only [Act.put, List.setIfInBounds_toArray, List.set_cons_zero, List.set_cons_succ])
      | (refine' eager_want ?_ ?_ (fun K hK => ?_)
         rotate_left 1
         · simp only [List.getElem?_toArray, List.getElem?_cons_zero, List.getElem?_cons_succ]; exact rfl
         · exact rfl
         go_big_quiet_op
         refine hK _ ?_
         clear hK K))
  refine' eager_call ?_ ?_ (fun K hK => ?_)
  rotate_left 1
  · simp only [List.getElem?_toArray, List.getElem?_cons_zero, List.getElem?_cons_succ]; exact rfl
  · exact rfl
  go_simp
  refine (nA _).mono ?_
  rintro e wn ⟨rfl, hb⟩
  refine hK _ _ hb ?_
  replace hTc := tab_below hTc hb (tab_pos hTc)
  replace hcur := hcur.trans (hb.mono hcur.size)
  clear hb hK K
  repeat (first
      | (refine' eager_skip ?_ ?_ ?_
         rotate_left 1
         · simp only [List.getElem?_toArray, List.getElem?_cons_zero, List.getElem?_cons_succ]; exact rfl
         · exact rfl
         simp only [Act.put, List.setIfInBounds_toArray, List.set_cons_zero, List.set_cons_succ])
      | (refine' eager_want ?_ ?_ (fun K hK => ?_)
         rotate_left 1
         · simp only [List.getElem?_toArray, List.getElem?_cons_zero, List.getElem?_cons_succ]; exact rfl
         · exact rfl
         go_big_quiet_op
         refine hK _ ?_
         clear hK K))
  refine' eager_call ?_ ?_ (fun K hK => ?_)
  rotate_left 1
  · simp only [List.getElem?_toArray, List.getElem?_cons_zero, List.getElem?_cons_succ]; exact rfl
  · exact rfl
  go_simp
  refine (nN _).mono ?_
  rintro e wn ⟨rfl, hb⟩
  refine hK _ _ hb ?_
  replace hTc := tab_below hTc hb (tab_pos hTc)
  replace hcur := hcur.trans (hb.mono hcur.size)
  clear hb hK K
  repeat (first
      | (refine' eager_skip ?_ ?_ ?_
         rotate_left 1
         · simp only [List.getElem?_toArray, List.getElem?_cons_zero, List.getElem?_cons_succ]; exact rfl
         · exact rfl
         simp only [Act.put, List.setIfInBounds_toArray, List.set_cons_zero, List.set_cons_succ])
      | (refine' eager_want ?_ ?_ (fun K hK => ?_)
         rotate_left 1
         · simp only [List.getElem?_toArray, List.getElem?_cons_zero, List.getElem?_cons_succ]; exact rfl
         · exact rfl
         go_big_quiet_op
         refine hK _ ?_
         clear hK K))
  refine' eager_call ?_ ?_ (fun K hK => ?_)
  rotate_left 1
  · simp only [List.getElem?_toArray, List.getElem?_cons_zero, List.getElem?_cons_succ]; exact rfl
  · exact rfl
  go_simp
  refine (rA _ hTc).mono ?_
  rintro e wn ⟨xa, xc, rfl, hb, _⟩
  refine hK _ _ hb ?_
  replace hTc := tab_below hTc hb (tab_pos hTc)
  replace hcur := hcur.trans (hb.mono hcur.size)
  clear hb hK K
  repeat (first
      | (refine' eager_skip ?_ ?_ ?_
         rotate_left 1
         · simp only [List.getElem?_toArray, List.getElem?_cons_zero, List.getElem?_cons_succ]; exact rfl
         · exact rfl
         simp only [Act.put, List.setIfInBounds_toArray, List.set_cons_zero, List.set_cons_succ])
      | (refine' eager_want ?_ ?_ (fun K hK => ?_)
         rotate_left 1
         · simp only [List.getElem?_toArray, List.getElem?_cons_zero, List.getElem?_cons_succ]; exact rfl
         · exact rfl
         go_big_quiet_op
         refine hK _ ?_
         clear hK K))
  refine' eager_call ?_ ?_ (fun K hK => ?_)
  rotate_left 1
  · simp only [List.getElem?_toArray, List.getElem?_cons_zero, List.getElem?_cons_succ]; exact rfl
  · exact rfl
  go_simp
  refine (rN _ hTc).mono ?_
  rintro e wn ⟨ya, yc, rfl, hb, _⟩
  refine hK _ _ hb ?_
  replace hTc := tab_below hTc hb (tab_pos hTc)
  replace hcur := hcur.trans (hb.mono hcur.size)
  clear hb hK K
  repeat (first
      | (refine' eager_skip ?_ ?_ ?_
         rotate_left 1
         · simp only [List.getElem?_toArray, List.getElem?_cons_zero, List.getElem?_cons_succ]; exact rfl
         · exact rfl
         simp only [Act.put, List.setIfInBounds_toArray, List.set_cons_zero, List.set_cons_succ])
      | (refine' eager_want ?_ ?_ (fun K hK => ?_)
         rotate_left 1
         · simp only [List.getElem?_toArray, List.getElem?_cons_zero, List.getElem?_cons_succ]; exact rfl
         · exact rfl
         go_big_quiet_op
         refine hK _ ?_
         clear hK K))
  refine' eager_call ?_ ?_ (fun K hK => ?_)
  rotate_left 1
  · simp only [List.getElem?_toArray, List.getElem?_cons_zero, List.getElem?_cons_succ]; exact rfl
  · exact rfl
  go_simp
  refine (q1 _).mono ?_
  rintro e wn ⟨rfl, hb⟩
  refine hK _ _ hb ?_
  replace hTc := tab_below hTc hb (tab_pos hTc)
  replace hcur := hcur.trans (hb.mono hcur.size)
  clear hb hK K
  repeat (first
      | (refine' eager_skip ?_ ?_ ?_
         rotate_left 1
         · simp only [List.getElem?_toArray, List.getElem?_cons_zero, List.getElem?_cons_succ]; exact rfl
         · exact rfl
         simp only [Act.put, List.setIfInBounds_toArray, List.set_cons_zero, List.set_cons_succ])
      | (refine' eager_want ?_ ?_ (fun K hK => ?_)
         rotate_left 1
         · simp only [List.getElem?_toArray, List.getElem?_cons_zero, List.getElem?_cons_succ]; exact rfl
         · exact rfl
         go_big_quiet_op
         refine hK _ ?_
         clear hK K))
  refine' eager_call ?_ ?_ (fun K hK => ?_)
  rotate_left 1
  · simp only [List.getElem?_toArray, List.getElem?_cons_zero, List.getElem?_cons_succ]; exact rfl
  · exact rfl
  go_simp
  refine (q2 _).mono ?_
  rintro e wn ⟨rfl, hb⟩
  refine hK _ _ hb ?_
  replace hTc := tab_below hTc hb (tab_pos hTc)
  replace hcur := hcur.trans (hb.mono hcur.size)
  clear hb hK K
  repeat (first
      | (refine' eager_skip ?_ ?_ ?_
         rotate_left 1
         · simp only [List.getElem?_toArray, List.getElem?_cons_zero, List.getElem?_cons_succ]; exact rfl
         · exact rfl
         simp only [Act.put, List.setIfInBounds_toArray, List.set_cons_zero, List.set_cons_succ])
      | (refine' eager_want ?_ ?_ (fun K hK => ?_)
         rotate_left 1
         · simp only [List.getElem?_toArray, List.getElem?_cons_zero, List.getElem?_cons_succ]; exact rfl
         · exact rfl
         go_big_quiet_op
         refine hK _ ?_
         clear hK K))
  refine' eager_call ?_ ?_ (fun K hK => ?_)
  rotate_left 1
  · simp only [List.getElem?_toArray, List.getElem?_cons_zero, List.getElem?_cons_succ]; exact rfl
  · exact rfl
  go_simp
  refine (hasA _).mono ?_
  rintro e wn ⟨rfl, hb⟩
  refine hK _ _ hb ?_
  replace hTc := tab_below hTc hb (tab_pos hTc)
  replace hcur := hcur.trans (hb.mono hcur.size)
  clear hb hK K
  repeat (first
      | (refine' eager_skip ?_ ?_ ?_
         rotate_left 1
         · simp only [List.getElem?_toArray, List.getElem?_cons_zero, List.getElem?_cons_succ]; exact rfl
         · exact rfl
         simp only [Act.put, List.setIfInBounds_toArray, List.set_cons_zero, List.set_cons_succ])
      | (refine' eager_want ?_ ?_ (fun K hK => ?_)
         rotate_left 1
         · simp only [List.getElem?_toArray, List.getElem?_cons_zero, List.getElem?_cons_succ]; exact rfl
         · exact rfl
         go_big_quiet_op
         refine hK _ ?_
         clear hK K))
  refine' eager_call ?_ ?_ (fun K hK => ?_)
  rotate_left 1
  · simp only [List.getElem?_toArray, List.getElem?_cons_zero, List.getElem?_cons_succ]; exact rfl
  · exact rfl
  go_simp
  refine hK _ _ ((Below.refl _ _).alloc (Nat.le_refl _) _) ?_
  have B1 : BytesAt (wn.alloc (.cells #[.int .u8 64] 5)) (some ⟨wn.heap.size, 0, none⟩) 1 1 [64] := by simpa using bytes_lit wn [64] #[.int .u8 64] rfl (by decide) (by decide)
  replace hcur := hcur.alloc hcur.size (.cells #[.int .u8 64] 5)
  replace hTc := tab_alloc hTc (.cells #[.int .u8 64] 5)
  clear hK K
  refine' eager_call ?_ ?_ (fun K hK => ?_)
  rotate_left 1
  · simp only [List.getElem?_toArray, List.getElem?_cons_zero, List.getElem?_cons_succ]; exact rfl
  · exact rfl
  go_simp
  refine (o4 _ _ _ B1).mono ?_
  rintro e wn ⟨rfl, hb⟩
  refine hK _ _ hb ?_
  replace hTc := tab_below hTc hb (tab_pos hTc)
  replace hcur := hcur.trans (hb.mono hcur.size)
  clear hb hK K
  clear B1
  repeat (first
      | (refine' eager_skip ?_ ?_ ?_
         rotate_left 1
         · simp only [List.getElem?_toArray, List.getElem?_cons_zero, List.getElem?_cons_succ]; exact rfl
         · exact rfl
         simp only [Act.put, List.setIfInBounds_toArray, List.set_cons_zero, List.set_cons_succ])
      | (refine' eager_want ?_ ?_ (fun K hK => ?_)
         rotate_left 1
         · simp only [List.getElem?_toArray, List.getElem?_cons_zero, List.getElem?_cons_succ]; exact rfl
         · exact rfl
         go_big_quiet_op
         refine hK _ ?_
         clear hK K))
  refine' eager_call ?_ ?_ (fun K hK => ?_)
  rotate_left 1
  · simp only [List.getElem?_toArray, List.getElem?_cons_zero, List.getElem?_cons_succ]; exact rfl
  · exact rfl
  go_simp
  refine hK _ _ ((Below.refl _ _).alloc (Nat.le_refl _) _) ?_
  have B2 : BytesAt (wn.alloc (.cells #[.int .u8 0] 5)) (some ⟨wn.heap.size, 0, none⟩) 1 1 [0] := by simpa using bytes_lit wn [0] #[.int .u8 0] rfl (by decide) (by decide)
  replace hcur := hcur.alloc hcur.size (.cells #[.int .u8 0] 5)
  replace hTc := tab_alloc hTc (.cells #[.int .u8 0] 5)
  clear hK K
  refine' eager_call ?_ ?_ (fun K hK => ?_)
  rotate_left 1
  · simp only [List.getElem?_toArray, List.getElem?_cons_zero, List.getElem?_cons_succ]; exact rfl
  · exact rfl
  go_simp
  refine (o5 _ _ _ B2).mono ?_
  rintro e wn ⟨rfl, hb⟩
  refine hK _ _ hb ?_
  replace hTc := tab_below hTc hb (tab_pos hTc)
  replace hcur := hcur.trans (hb.mono hcur.size)
  clear hb hK K
  clear B2
  repeat (first
      | (refine' eager_skip ?_ ?_ ?_
         rotate_left 1
         · simp only [List.getElem?_toArray, List.getElem?_cons_zero, List.getElem?_cons_succ]; exact rfl
         · exact rfl
         simp only [Act.put, List.setIfInBounds_toArray, List.set_cons_zero, List.set_cons_succ])
      | (refine' eager_want ?_ ?_ (fun K hK => ?_)
         rotate_left 1
         · simp only [List.getElem?_toArray, List.getElem?_cons_zero, List.getElem?_cons_succ]; exact rfl
         · exact rfl
         go_big_quiet_op
         refine hK _ ?_
         clear hK K))
  refine' eager_call ?_ ?_ (fun K hK => ?_)
  rotate_left 1
  · simp only [List.getElem?_toArray, List.getElem?_cons_zero, List.getElem?_cons_succ]; exact rfl
  · exact rfl
  go_simp
  refine (k1 _ hTc).mono ?_
  rintro e wn ⟨rfl, hb⟩
  refine hK _ _ hb ?_
  replace hTc := tab_below hTc hb (tab_pos hTc)
  replace hcur := hcur.trans (hb.mono hcur.size)
  clear hb hK K
  repeat (first
      | (refine' eager_skip ?_ ?_ ?_
         rotate_left 1
         · simp only [List.getElem?_toArray, List.getElem?_cons_zero, List.getElem?_cons_succ]; exact rfl
         · exact rfl
         simp only [Act.put, List.setIfInBounds_toArray, List.set_cons_zero, List.set_cons_succ])
      | (refine' eager_want ?_ ?_ (fun K hK => ?_)
         rotate_left 1
         · simp only [List.getElem?_toArray, List.getElem?_cons_zero, List.getElem?_cons_succ]; exact rfl
         · exact rfl
         go_big_quiet_op
         refine hK _ ?_
         clear hK K))
  refine eager_fork ?_ ?_
  · refine' step_call ?_ ?_ (fun K hK => ?_)
    rotate_left 1
    · simp only [List.getElem?_toArray, List.getElem?_cons_zero, List.getElem?_cons_succ]; exact rfl
    · exact rfl
    go_simp
    refine hK _ _ ((Below.refl _ _).alloc (Nat.le_refl _) _) ?_
    have B1 : BytesAt (wn.alloc (.cells #[.int .u8 1] 5)) (some ⟨wn.heap.size, 0, none⟩) 1 1 [1] := by simpa using bytes_lit wn [1] #[.int .u8 1] rfl (by decide) (by decide)
    replace hcur := hcur.alloc hcur.size (.cells #[.int .u8 1] 5)
    replace hTc := tab_alloc hTc (.cells #[.int .u8 1] 5)
    clear hK K
    refine eager_fork ?_ ?_
    · refine' step_call ?_ ?_ (fun K hK => ?_)
      rotate_left 1
      · simp only [List.getElem?_toArray, List.getElem?_cons_zero, List.getElem?_cons_succ]; exact rfl
      · exact rfl
      go_simp
      refine (o6 _ _ _ B1).mono ?_
      rintro e wn ⟨rfl, hb⟩
      refine hK _ _ hb ?_
      replace hTc := tab_below hTc hb (tab_pos hTc)
      replace hcur := hcur.trans (hb.mono hcur.size)
      clear hb hK K
      clear B1
      refine' eager_call ?_ ?_ (fun K hK => ?_)
      rotate_left 1
      · simp only [List.getElem?_toArray, List.getElem?_cons_zero, List.getElem?_cons_succ]; exact rfl
      · exact rfl
      go_simp
      refine hK _ _ ((Below.refl _ _).alloc (Nat.le_refl _) _) ?_
      have B2 : BytesAt (wn.alloc (.cells #[.int .u8 0, .int .u8 200] 5)) (some ⟨wn.heap.size, 0, none⟩) 2 2 [0, 200] := by simpa using bytes_lit wn [0, 200] #[.int .u8 0, .int .u8 200] rfl (by decide) (by decide)
      replace hcur := hcur.alloc hcur.size (.cells #[.int .u8 0, .int .u8 200] 5)
      replace hTc := tab_alloc hTc (.cells #[.int .u8 0, .int .u8 200] 5)
      clear hK K
      refine' eager_call ?_ ?_ (fun K hK => ?_)
      rotate_left 1
      · simp only [List.getElem?_toArray, List.getElem?_cons_zero, List.getElem?_cons_succ]; exact rfl
      · exact rfl
      go_simp
      refine (o7 _ _ _ B2).mono ?_
      rintro e wn ⟨rfl, hb⟩
      refine hK _ _ hb ?_
      replace hTc := tab_below hTc hb (tab_pos hTc)
      replace hcur := hcur.trans (hb.mono hcur.size)
      clear hb hK K
      clear B2
      refine' eager_call ?_ ?_ (fun K hK => ?_)
      rotate_left 1
      · simp only [List.getElem?_toArray, List.getElem?_cons_zero, List.getElem?_cons_succ]; exact rfl
      · exact rfl
      go_simp
      refine (k2 _ hTc).mono ?_
      rintro e wn ⟨rfl, hb⟩
      refine hK _ _ hb ?_
      replace hTc := tab_below hTc hb (tab_pos hTc)
      replace hcur := hcur.trans (hb.mono hcur.size)
      clear hb hK K
      repeat (first
          | (refine' eager_skip ?_ ?_ ?_
             rotate_left 1
             · simp only [List.getElem?_toArray, List.getElem?_cons_zero, List.getElem?_cons_succ]; exact rfl
             · exact rfl
             simp only [Act.put, List.setIfInBounds_toArray, List.set_cons_zero, List.set_cons_succ])
          | (refine' eager_want ?_ ?_ (fun K hK => ?_)
             rotate_left 1
             · simp only [List.getElem?_toArray, List.getElem?_cons_zero, List.getElem?_cons_succ]; exact rfl
             · exact rfl
             go_big_quiet_op
             refine hK _ ?_
             clear hK K))
      refine' eager_call ?_ ?_ (fun K hK => ?_)
      rotate_left 1
      · simp only [List.getElem?_toArray, List.getElem?_cons_zero, List.getElem?_cons_succ]; exact rfl
      · exact rfl
      go_simp
      refine (k3 _ hTc).mono ?_
      rintro e wn ⟨rfl, hb⟩
      refine hK _ _ hb ?_
      replace hTc := tab_below hTc hb (tab_pos hTc)
      replace hcur := hcur.trans (hb.mono hcur.size)
      clear hb hK K
      repeat (first
          | (refine' eager_skip ?_ ?_ ?_
             rotate_left 1
             · simp only [List.getElem?_toArray, List.getElem?_cons_zero, List.getElem?_cons_succ]; exact rfl
             · exact rfl
             simp only [Act.put, List.setIfInBounds_toArray, List.set_cons_zero, List.set_cons_succ])
          | (refine' eager_want ?_ ?_ (fun K hK => ?_)
             rotate_left 1
             · simp only [List.getElem?_toArray, List.getElem?_cons_zero, List.getElem?_cons_succ]; exact rfl
             · exact rfl
             go_big_quiet_op
             refine hK _ ?_
             clear hK K))
      refine eager_done ?_
      go_wp2_with fail
      go_ret
      exact ⟨rfl, hbw10.trans (hcur.mono hbw10.size)⟩
    · refine' step_call ?_ ?_ (fun K hK => ?_)
      rotate_left 1
      · simp only [List.getElem?_toArray, List.getElem?_cons_zero, List.getElem?_cons_succ]; exact rfl
      · exact rfl
      go_simp
      refine hK _ _ ((Below.refl _ _).alloc (Nat.le_refl _) _) ?_
      have B2 : BytesAt ((wn.alloc (.cells #[.int .u8 1] 5)).alloc (.cells #[.int .u8 0, .int .u8 200] 5)) (some ⟨wn.heap.size + 1, 0, none⟩) 2 2 [0, 200] := by simpa using bytes_lit (wn.alloc (.cells #[.int .u8 1] 5)) [0, 200] #[.int .u8 0, .int .u8 200] rfl (by decide) (by decide)
      replace hcur := hcur.alloc hcur.size (.cells #[.int .u8 0, .int .u8 200] 5)
      replace hTc := tab_alloc hTc (.cells #[.int .u8 0, .int .u8 200] 5)
      clear hK K
      replace B1 := bytes_keep B1 ((Below.refl _ _).alloc (Nat.le_refl _) (.cells #[.int .u8 0, .int .u8 200] 5))
      refine' eager_call ?_ ?_ (fun K hK => ?_)
      rotate_left 1
      · simp only [List.getElem?_toArray, List.getElem?_cons_zero, List.getElem?_cons_succ]; exact rfl
      · exact rfl
      go_simp
      refine (o6 _ _ _ B1).mono ?_
      rintro e wn ⟨rfl, hb⟩
      refine hK _ _ hb ?_
      replace hTc := tab_below hTc hb (tab_pos hTc)
      replace hcur := hcur.trans (hb.mono hcur.size)
      replace B2 := bytes_keep B2 hb
      clear hb hK K
      clear B1
      refine' eager_call ?_ ?_ (fun K hK => ?_)
      rotate_left 1
      · simp only [List.getElem?_toArray, List.getElem?_cons_zero, List.getElem?_cons_succ]; exact rfl
      · exact rfl
      go_simp
      refine (o7 _ _ _ B2).mono ?_
      rintro e wn ⟨rfl, hb⟩
      refine hK _ _ hb ?_
      replace hTc := tab_below hTc hb (tab_pos hTc)
      replace hcur := hcur.trans (hb.mono hcur.size)
      clear hb hK K
      clear B2
      refine' eager_call ?_ ?_ (fun K hK => ?_)
      rotate_left 1
      · simp only [List.getElem?_toArray, List.getElem?_cons_zero, List.getElem?_cons_succ]; exact rfl
      · exact rfl
      go_simp
      refine (k2 _ hTc).mono ?_
      rintro e wn ⟨rfl, hb⟩
      refine hK _ _ hb ?_
      replace hTc := tab_below hTc hb (tab_pos hTc)
      replace hcur := hcur.trans (hb.mono hcur.size)
      clear hb hK K
      repeat (first
          | (refine' eager_skip ?_ ?_ ?_
             rotate_left 1
             · simp only [List.getElem?_toArray, List.getElem?_cons_zero, List.getElem?_cons_succ]; exact rfl
             · exact rfl
             simp only [Act.put, List.setIfInBounds_toArray, List.set_cons_zero, List.set_cons_succ])
          | (refine' eager_want ?_ ?_ (fun K hK => ?_)
             rotate_left 1
             · simp only [List.getElem?_toArray, List.getElem?_cons_zero, List.getElem?_cons_succ]; exact rfl
             · exact rfl
             go_big_quiet_op
             refine hK _ ?_
             clear hK K))
      refine' eager_call ?_ ?_ (fun K hK => ?_)
      rotate_left 1
      · simp only [List.getElem?_toArray, List.getElem?_cons_zero, List.getElem?_cons_succ]; exact rfl
      · exact rfl
      go_simp
      refine (k3 _ hTc).mono ?_
      rintro e wn ⟨rfl, hb⟩
      refine hK _ _ hb ?_
      replace hTc := tab_below hTc hb (tab_pos hTc)
      replace hcur := hcur.trans (hb.mono hcur.size)
      clear hb hK K
      repeat (first
          | (refine' eager_skip ?_ ?_ ?_
             rotate_left 1
             · simp only [List.getElem?_toArray, List.getElem?_cons_zero, List.getElem?_cons_succ]; exact rfl
             · exact rfl
             simp only [Act.put, List.setIfInBounds_toArray, List.set_cons_zero, List.set_cons_succ])
          | (refine' eager_want ?_ ?_ (fun K hK => ?_)
             rotate_left 1
             · simp only [List.getElem?_toArray, List.getElem?_cons_zero, List.getElem?_cons_succ]; exact rfl
             · exact rfl
             go_big_quiet_op
             refine hK _ ?_
             clear hK K))
      refine eager_done ?_
      go_wp2_with fail
      go_ret
      exact ⟨rfl, hbw10.trans (hcur.mono hbw10.size)⟩
  · refine' step_call ?_ ?_ (fun K hK => ?_)
    rotate_left 1
    · simp only [List.getElem?_toArray, List.getElem?_cons_zero, List.getElem?_cons_succ]; exact rfl
    · exact rfl
    go_simp
    refine hK _ _ ((Below.refl _ _).alloc (Nat.le_refl _) _) ?_
    have B2 : BytesAt (wn.alloc (.cells #[.int .u8 0, .int .u8 200] 5)) (some ⟨wn.heap.size, 0, none⟩) 2 2 [0, 200] := by simpa using bytes_lit wn [0, 200] #[.int .u8 0, .int .u8 200] rfl (by decide) (by decide)
    replace hcur := hcur.alloc hcur.size (.cells #[.int .u8 0, .int .u8 200] 5)
    replace hTc := tab_alloc hTc (.cells #[.int .u8 0, .int .u8 200] 5)
    clear hK K
    refine' eager_call ?_ ?_ (fun K hK => ?_)
    rotate_left 1
    · simp only [List.getElem?_toArray, List.getElem?_cons_zero, List.getElem?_cons_succ]; exact rfl
    · exact rfl
    go_simp
    refine hK _ _ ((Below.refl _ _).alloc (Nat.le_refl _) _) ?_
    have B1 : BytesAt ((wn.alloc (.cells #[.int .u8 0, .int .u8 200] 5)).alloc (.cells #[.int .u8 1] 5)) (some ⟨wn.heap.size + 1, 0, none⟩) 1 1 [1] := by simpa using bytes_lit (wn.alloc (.cells #[.int .u8 0, .int .u8 200] 5)) [1] #[.int .u8 1] rfl (by decide) (by decide)
    replace hcur := hcur.alloc hcur.size (.cells #[.int .u8 1] 5)
    replace hTc := tab_alloc hTc (.cells #[.int .u8 1] 5)
    clear hK K
    replace B2 := bytes_keep B2 ((Below.refl _ _).alloc (Nat.le_refl _) (.cells #[.int .u8 1] 5))
    refine' eager_call ?_ ?_ (fun K hK => ?_)
    rotate_left 1
    · simp only [List.getElem?_toArray, List.getElem?_cons_zero, List.getElem?_cons_succ]; exact rfl
    · exact rfl
    go_simp
    refine (o6 _ _ _ B1).mono ?_
    rintro e wn ⟨rfl, hb⟩
    refine hK _ _ hb ?_
    replace hTc := tab_below hTc hb (tab_pos hTc)
    replace hcur := hcur.trans (hb.mono hcur.size)
    replace B2 := bytes_keep B2 hb
    clear hb hK K
    clear B1
    refine' eager_call ?_ ?_ (fun K hK => ?_)
    rotate_left 1
    · simp only [List.getElem?_toArray, List.getElem?_cons_zero, List.getElem?_cons_succ]; exact rfl
    · exact rfl
    go_simp
    refine (o7 _ _ _ B2).mono ?_
    rintro e wn ⟨rfl, hb⟩
    refine hK _ _ hb ?_
    replace hTc := tab_below hTc hb (tab_pos hTc)
    replace hcur := hcur.trans (hb.mono hcur.size)
    clear hb hK K
    clear B2
    refine' eager_call ?_ ?_ (fun K hK => ?_)
    rotate_left 1
    · simp only [List.getElem?_toArray, List.getElem?_cons_zero, List.getElem?_cons_succ]; exact rfl
    · exact rfl
    go_simp
    refine (k2 _ hTc).mono ?_
    rintro e wn ⟨rfl, hb⟩
    refine hK _ _ hb ?_
    replace hTc := tab_below hTc hb (tab_pos hTc)
    replace hcur := hcur.trans (hb.mono hcur.size)
    clear hb hK K
    repeat (first
        | (refine' eager_skip ?_ ?_ ?_
           rotate_left 1
           · simp only [List.getElem?_toArray, List.getElem?_cons_zero, List.getElem?_cons_succ]; exact rfl
           · exact rfl
           simp only [Act.put, List.setIfInBounds_toArray, List.set_cons_zero, List.set_cons_succ])
        | (refine' eager_want ?_ ?_ (fun K hK => ?_)
           rotate_left 1
           · simp only [List.getElem?_toArray, List.getElem?_cons_zero, List.getElem?_cons_succ]; exact rfl
           · exact rfl
           go_big_quiet_op
           refine hK _ ?_
           clear hK K))
    refine' eager_call ?_ ?_ (fun K hK => ?_)
    rotate_left 1
    · simp only [List.getElem?_toArray, List.getElem?_cons_zero, List.getElem?_cons_succ]; exact rfl
    · exact rfl
    go_simp
    refine (k3 _ hTc).mono ?_
    rintro e wn ⟨rfl, hb⟩
    refine hK _ _ hb ?_
    replace hTc := tab_below hTc hb (tab_pos hTc)
    replace hcur := hcur.trans (hb.mono hcur.size)
    clear hb hK K
    repeat (first
        | (refine' eager_skip ?_ ?_ ?_
           rotate_left 1
           · simp only [List.getElem?_toArray, List.getElem?_cons_zero, List.getElem?_cons_succ]; exact rfl
           · exact rfl
           simp only [Act.put, List.setIfInBounds_toArray, List.set_cons_zero, List.set_cons_succ])
        | (refine' eager_want ?_ ?_ (fun K hK => ?_)
           rotate_left 1
           · simp only [List.getElem?_toArray, List.getElem?_cons_zero, List.getElem?_cons_succ]; exact rfl
           · exact rfl
           go_big_quiet_op
           refine hK _ ?_
           clear hK K))
    refine eager_done ?_
    go_wp2_with fail
    go_ret
    exact ⟨rfl, hbw10.trans (hcur.mono hbw10.size)⟩
end Go.Proofs.YtebodglhcnpfeaaDoor
