/- The walk of law 5's TreeKnown. -/
import Derived.Test.YtjfenbjamlflcaaKnownKit
import Derived.RangeFuncBox
import Derived.Deep.DeepCutAuto
namespace Go.Proofs.Ytjfenbjamlflcaa
open Go.RowKit
theorem at_zero {W : World} {k : Int} (hk : fits64 k) : Nd.at W (.mk k 0 0 0 0 []) [.int .i64 k, .int .u64 0, .int .u64 0, .int .u64 0, .int .u64 0, .int .i64 0, .int .i64 0, .int .i64 0, .slice none 0 0] := by
  have h := at_plain (W := W) (lo := 0) (hi := 0) (n := 0) 0 hk (by rfl) (by rfl) (by rfl)
  simp only [word_zero] at h
  exact h
theorem row_made {w : World} (L : List (Nd × List Value)) (h : ∀ p ∈ L, Nd.at w p.1 p.2) : VRow (L.map (·.1)) (.slice (some ⟨w.heap.size, 0, none⟩) (L.map (·.1)).length (L.map (·.1)).length) (w.alloc (.cells (L.flatMap (·.2)).toArray 28)) := by
  refine ⟨w.heap.size, rfl, by simp, nodesAt_cells L 0 (fun p hp => Nd.at_below ((Below.refl _ _).alloc (Nat.le_refl _) _) (Nat.le_refl _) _ _ (h p hp)) fun q _ => ?_⟩
  have hb := World.alloc_heap_new w (.cells (L.flatMap (·.2)).toArray 28)
  rw [Nat.zero_add, cells_at hb]
  simp
def knownPlan5 : Plan := (.plain 0 (.plain 1 (.sole 2 (.plain 3 (.plain 4 (.plain 5 (.sole 6 (.plain 7 (.plain 8 (.plain 9 (.plain 10 (.sole 11 (.plain 12 (.plain 13 (.plain 14 (.plain 15 (.sole 16 (.plain 17 (.plain 18 (.plain 19 (.plain 20 (.plain 21 (.sole 22 (.plain 23 (.plain 24 (.plain 25 (.plain 26 (.plain 28 (.sole 27 (.sole 29 (.sole 30 (.plain 31 (.plain 32 (.sole 33 (.plain 34 (.plain 35 (.plain 36 (.plain 39 (.sole 37 (.sole 38 (.sole 40 (.plain 41 (.plain 42 (.sole 43 (.plain 44 (.plain 45 (.plain 46 (.plain 47 (.plain 48 (.sole 49 (.plain 50 (.plain 51 (.plain 52 (.sole 53 (.plain 54 (.plain 55 (.plain 56 (.plain 57 (.plain 58 (.sole 59 (.plain 60 (.plain 61 (.plain 62 (.plain 63 (.sole 64 (.plain 65 (.plain 66 (.plain 67 (.plain 68 (.plain 69 (.sole 70 (.plain 71 (.plain 72 (.plain 73 (.plain 74 (.sole 75 (.plain 76 (.plain 77 (.plain 78 (.plain 79 (.plain 80 (.sole 81 (.plain 82 (.plain 83 (.plain 84 (.plain 85 (.sole 86 (.plain 87 (.plain 88 (.plain 89 (.plain 90 (.sole 91 (.plain 92 (.plain 93 (.plain 94 (.plain 95 .done))))))))))))))))))))))))))))))))))))))))))))))))))))))))))))))))))))))))))))))))))))))))))))))))
set_option maxRecDepth 100000 in
set_option maxHeartbeats 40000000 in
theorem treeKnown_walk (w : World) : Calls Try.prog 3 #[] w fun e w' => e = .returned (.bool true) ∧ Below w.heap.size w w' := by
  have ha := set_any 97 (by decide)
  have haw := awake5_any
  have hof := fun (a : Option Addr) (cap : Nat) (w : World) h => of_any a 1 cap [97] w h
  rw [show setOf [97] = oneSet 97 from rfl] at hof
  generalize hS : oneSet 97 = S at ha hof
  go_enter Try.func3, Try.ntmps3
  go_wp2_with fail
  refine (haw _).mono ?_
  rintro e w1 ⟨rfl, hb1⟩
  go_wp2_with fail
  refine (ha _).mono ?_
  rintro e w2 ⟨rfl, hb2⟩
  have hw2 := hb1.trans (hb2.mono hb1.size)
  clear ha haw hb1 hb2
  have Hof := Lib.hid hof
  clear hof
  go_wp2_with fail
  obtain ⟨cA, hcA⟩ : ∃ cA : List Value, cA = [.int .i64 1, .int .u64 (word S 0), .int .u64 (word S 1), .int .u64 (word S 2), .int .u64 (word S 3), .int .i64 0, .int .i64 0, .int .i64 0, .slice none 0 0] := ⟨_, rfl⟩
  obtain ⟨cR, hcR⟩ : ∃ cR : List Value, cR = [.int .i64 2, .int .u64 0, .int .u64 0, .int .u64 0, .int .u64 0, .int .i64 0, .int .i64 0, .int .i64 0, .slice (some ⟨w2.heap.size + 1, 0, none⟩) 2 2] := ⟨_, rfl⟩
  obtain ⟨cO, hcO⟩ : ∃ cO : List Value, cO = [.int .i64 3, .int .u64 0, .int .u64 0, .int .u64 0, .int .u64 0, .int .i64 0, .int .i64 0, .int .i64 0, .slice (some ⟨w2.heap.size + 1 + 1 + 1, 0, none⟩) 2 2] := ⟨_, rfl⟩
  obtain ⟨cP, hcP⟩ : ∃ cP : List Value, cP = [.int .i64 4, .int .u64 0, .int .u64 0, .int .u64 0, .int .u64 0, .int .i64 0, .int .i64 (-1), .int .i64 0, .slice (some ⟨w2.heap.size + 1 + 1 + 1 + 1 + 1, 0, none⟩) 1 1] := ⟨_, rfl⟩
  obtain ⟨w7, hw7⟩ : ∃ w7, w7 = ((((((w2.alloc (.cells cA.toArray 28)).alloc (.cells (cA ++ cA).toArray 28)).alloc (.cells cR.toArray 28)).alloc (.cells (cA ++ cR).toArray 28)).alloc (.cells cO.toArray 28)).alloc (.cells cA.toArray 28)).alloc (.cells cP.toArray 28) := ⟨_, rfl⟩
  have hfacts : Below w.heap.size w w7 ∧ (∀ w', Below w7.heap.size w7 w' → Node9 w' w2.heap.size 0 cA ∧ Nd.at w' (nA S) cA ∧ Node9 w' (w2.heap.size + 1 + 1) 0 cR ∧ Nd.at w' (nRow S) cR ∧
      Node9 w' (w2.heap.size + 1 + 1 + 1 + 1) 0 cO ∧ Nd.at w' (nOf S) cO ∧ Node9 w' (w2.heap.size + 1 + 1 + 1 + 1 + 1 + 1) 0 cP ∧ Nd.at w' (nRep S) cP) := by
    have e := hw7
    have step : ∀ (x : World) (o : Obj) (b : Nat) (ob : Obj), x.heap[b]? = some ob → (x.alloc o).heap[b]? = some ob := fun x o b ob h => (Below.heap_alloc x o b (block_lt h)).trans h
    generalize h1 : w2.alloc (.cells cA.toArray 28) = x1 at e
    have s1 : x1.heap.size = w2.heap.size + 1 := by rw [← h1]; simp
    have m1 : x1.heap[w2.heap.size]? = some (.cells cA.toArray 28) := by rw [← h1]; exact World.alloc_heap_new _ _
    have b1 : Below w2.heap.size w2 x1 := by rw [← h1]; exact (Below.refl _ _).alloc (Nat.le_refl _) _
    generalize h2 : x1.alloc (.cells (cA ++ cA).toArray 28) = x2 at e
    have s2 : x2.heap.size = w2.heap.size + 1 + 1 := by rw [← h2, World.size_alloc, s1]
    have m2 : x2.heap[w2.heap.size + 1]? = some (.cells (cA ++ cA).toArray 28) := by rw [← h2, ← s1]; exact World.alloc_heap_new _ _
    have m1 := step x1 (.cells (cA ++ cA).toArray 28) _ _ m1
    rw [h2] at m1
    have b2 : Below w2.heap.size w2 x2 := by rw [← h2]; exact b1.alloc (by omega) _
    generalize h3 : x2.alloc (.cells cR.toArray 28) = x3 at e
    have s3 : x3.heap.size = w2.heap.size + 1 + 1 + 1 := by rw [← h3, World.size_alloc, s2]
    have m3 : x3.heap[w2.heap.size + 1 + 1]? = some (.cells cR.toArray 28) := by rw [← h3, ← s2]; exact World.alloc_heap_new _ _
    have m1 := step x2 (.cells cR.toArray 28) _ _ m1
    have m2 := step x2 (.cells cR.toArray 28) _ _ m2
    rw [h3] at m1 m2
    have b3 : Below w2.heap.size w2 x3 := by rw [← h3]; exact b2.alloc (by omega) _
    generalize h4 : x3.alloc (.cells (cA ++ cR).toArray 28) = x4 at e
    have s4 : x4.heap.size = w2.heap.size + 1 + 1 + 1 + 1 := by rw [← h4, World.size_alloc, s3]
    have m4 : x4.heap[w2.heap.size + 1 + 1 + 1]? = some (.cells (cA ++ cR).toArray 28) := by rw [← h4, ← s3]; exact World.alloc_heap_new _ _
    have m1 := step x3 (.cells (cA ++ cR).toArray 28) _ _ m1
    have m2 := step x3 (.cells (cA ++ cR).toArray 28) _ _ m2
    have m3 := step x3 (.cells (cA ++ cR).toArray 28) _ _ m3
    rw [h4] at m1 m2 m3
    have b4 : Below w2.heap.size w2 x4 := by rw [← h4]; exact b3.alloc (by omega) _
    generalize h5 : x4.alloc (.cells cO.toArray 28) = x5 at e
    have s5 : x5.heap.size = w2.heap.size + 1 + 1 + 1 + 1 + 1 := by rw [← h5, World.size_alloc, s4]
    have m5 : x5.heap[w2.heap.size + 1 + 1 + 1 + 1]? = some (.cells cO.toArray 28) := by rw [← h5, ← s4]; exact World.alloc_heap_new _ _
    have m1 := step x4 (.cells cO.toArray 28) _ _ m1
    have m2 := step x4 (.cells cO.toArray 28) _ _ m2
    have m3 := step x4 (.cells cO.toArray 28) _ _ m3
    have m4 := step x4 (.cells cO.toArray 28) _ _ m4
    rw [h5] at m1 m2 m3 m4
    have b5 : Below w2.heap.size w2 x5 := by rw [← h5]; exact b4.alloc (by omega) _
    generalize h6 : x5.alloc (.cells cA.toArray 28) = x6 at e
    have s6 : x6.heap.size = w2.heap.size + 1 + 1 + 1 + 1 + 1 + 1 := by rw [← h6, World.size_alloc, s5]
    have m6 : x6.heap[w2.heap.size + 1 + 1 + 1 + 1 + 1]? = some (.cells cA.toArray 28) := by rw [← h6, ← s5]; exact World.alloc_heap_new _ _
    have m1 := step x5 (.cells cA.toArray 28) _ _ m1
    have m2 := step x5 (.cells cA.toArray 28) _ _ m2
    have m3 := step x5 (.cells cA.toArray 28) _ _ m3
    have m4 := step x5 (.cells cA.toArray 28) _ _ m4
    have m5 := step x5 (.cells cA.toArray 28) _ _ m5
    rw [h6] at m1 m2 m3 m4 m5
    have b6 : Below w2.heap.size w2 x6 := by rw [← h6]; exact b5.alloc (by omega) _
    have m7 : w7.heap[w2.heap.size + 1 + 1 + 1 + 1 + 1 + 1]? = some (.cells cP.toArray 28) := by rw [e, ← s6]; exact World.alloc_heap_new _ _
    have m1 := step x6 (.cells cP.toArray 28) _ _ m1
    have m2 := step x6 (.cells cP.toArray 28) _ _ m2
    have m3 := step x6 (.cells cP.toArray 28) _ _ m3
    have m4 := step x6 (.cells cP.toArray 28) _ _ m4
    have m5 := step x6 (.cells cP.toArray 28) _ _ m5
    have m6 := step x6 (.cells cP.toArray 28) _ _ m6
    rw [← e] at m1 m2 m3 m4 m5 m6
    have b7 : Below w2.heap.size w2 w7 := by rw [e]; exact b6.alloc (by omega) _
    refine ⟨hw2.trans (b7.mono hw2.size), fun w' hw' => ?_⟩
    have k1 := block_below m1 hw' (block_lt m1)
    have k2 := block_below m2 hw' (block_lt m2)
    have k3 := block_below m3 hw' (block_lt m3)
    have k4 := block_below m4 hw' (block_lt m4)
    have k5 := block_below m5 hw' (block_lt m5)
    have k6 := block_below m6 hw' (block_lt m6)
    have k7 := block_below m7 hw' (block_lt m7)
    have n9 : ∀ (b : Nat) (cs : List Value), cs.length = 9 → w'.heap[b]? = some (.cells cs.toArray 28) → Node9 w' b 0 cs := fun b cs hl hh => ⟨hl, fun q _ => by rw [Nat.zero_add, cells_at hh]; simp⟩
    have atA : Nd.at w' (nA S) cA := by rw [hcA]; exact at_plain S (by rfl) (by rfl) (by rfl) (by rfl)
    have atR : Nd.at w' (nRow S) cR := by
      rw [hcR]
      exact at_made (by rfl) (by rfl) (by rfl) (by rfl) [(nA S, cA), (nA S, cA)] (by simp [maxLen]) (by simp only [List.forall_mem_cons]; exact ⟨atA, atA, fun p hp => by cases hp⟩) (by simpa using k2)
    have atO : Nd.at w' (nOf S) cO := by
      rw [hcO]
      exact at_made (by rfl) (by rfl) (by rfl) (by rfl) [(nA S, cA), (nRow S, cR)] (by simp [maxLen]) (by simp only [List.forall_mem_cons]; exact ⟨atA, atR, fun p hp => by cases hp⟩) (by simpa using k4)
    have atP : Nd.at w' (nRep S) cP := by
      rw [hcP]
      exact at_made (by rfl) (by rfl) (by rfl) (by rfl) [(nA S, cA)] (by simp [maxLen]) (by simp only [List.forall_mem_cons]; exact ⟨atA, fun p hp => by cases hp⟩) (by simpa using k6)
    exact ⟨n9 _ _ (at_len atA) k1, atA, n9 _ _ (at_len atR) k3, atR, n9 _ _ (at_len atO) k5, atO, n9 _ _ (at_len atP) k7, atP⟩
  obtain ⟨hb7, hlater⟩ := hfacts
  have h9cA := fun w' h => (hlater w' h).1
  have hatcA := fun w' h => (hlater w' h).2.1
  have h9cR := fun w' h => (hlater w' h).2.2.1
  have hatcR := fun w' h => (hlater w' h).2.2.2.1
  have h9cO := fun w' h => (hlater w' h).2.2.2.2.1
  have hatcO := fun w' h => (hlater w' h).2.2.2.2.2.1
  have h9cP := fun w' h => (hlater w' h).2.2.2.2.2.2.1
  have hatcP := fun w' h => (hlater w' h).2.2.2.2.2.2.2
  have he7 := hw7
  rw [hcA, hcR, hcO, hcP] at he7
  simp only [List.cons_append, List.nil_append] at he7
  rw [← he7]
  have hof := Hof.out
  have HcA := Lib.hid hcA
  clear he7 hw7 hcA hcR hcO hcP hlater
  go_cut [5] from 28 to 74 (fun v5 wx => ∃ b, v5 = .slice (some ⟨b, 0, none⟩) 16 16 ∧ b < wx.heap.size ∧ nodesAt wx (badL S) b 0 ∧ Below w7.heap.size w7 wx)
  case first =>
   rename_i J K' hR hMet
   refine wp_region_slots (badVal S) (W0 := w7) (by kernel_rfl) (by kernel_rfl) (by kernel_rfl) (Below.refl _ _) (fun i v w w' h hb => bad_stable S i v w w' h hb) ?hop ?hend
   case hop =>
    intro i o ho a' w' hB hk hin K hK
    have hi : i < 48 := (Array.getElem?_eq_some_iff.1 ho).1
    have hi2 : i = 0 ∨ i = 1 ∨ i = 2 ∨ i = 3 ∨ i = 4 ∨ i = 5 ∨ i = 6 ∨ i = 7 ∨ i = 8 ∨ i = 9 ∨ i = 10 ∨ i = 11 ∨ i = 12 ∨ i = 13 ∨ i = 14 ∨ i = 15 ∨ i = 16 ∨ i = 17 ∨ i = 18 ∨ i = 19 ∨ i = 20 ∨ i = 21 ∨ i = 22 ∨ i = 23 ∨ i = 24 ∨ i = 25 ∨ i = 26 ∨ i = 27 ∨ i = 28 ∨ i = 29 ∨ i = 30 ∨ i = 31 ∨ i = 32 ∨ i = 33 ∨ i = 34 ∨ i = 35 ∨ i = 36 ∨ i = 37 ∨ i = 38 ∨ i = 39 ∨ i = 40 ∨ i = 41 ∨ i = 42 ∨ i = 43 ∨ i = 44 ∨ i = 45 ∨ i = 46 ∨ i = 47 := by omega
    rcases hi2 with rfl | rfl | rfl | rfl | rfl | rfl | rfl | rfl | rfl | rfl | rfl | rfl | rfl | rfl | rfl | rfl | rfl | rfl | rfl | rfl | rfl | rfl | rfl | rfl | rfl | rfl | rfl | rfl | rfl | rfl | rfl | rfl | rfl | rfl | rfl | rfl | rfl | rfl | rfl | rfl | rfl | rfl | rfl | rfl | rfl | rfl | rfl | rfl
    · simp only [List.getElem?_toArray, List.getElem?_cons_zero, List.getElem?_cons_succ, Option.some.injEq] at ho
      subst ho
      unfold Oper.wp execOp
      go_simp
      exact hK _ _ (Below.refl _ _) ⟨_, rfl, at_zero (by rfl)⟩
    · simp only [List.getElem?_toArray, List.getElem?_cons_zero, List.getElem?_cons_succ, Option.some.injEq] at ho
      subst ho
      unfold Oper.wp execOp
      go_simp
      exact hK _ _ (Below.refl _ _) ⟨_, rfl, at_zero (by rfl)⟩
    · simp only [List.getElem?_toArray, List.getElem?_cons_zero, List.getElem?_cons_succ, Option.some.injEq] at ho
      subst ho
      unfold Oper.wp execOp
      go_simp
      exact hK _ _ (Below.refl _ _) ⟨_, rfl, at_zero (by rfl)⟩
    · simp only [List.getElem?_toArray, List.getElem?_cons_zero, List.getElem?_cons_succ, Option.some.injEq] at ho
      subst ho
      unfold Oper.wp execOp
      go_simp
      exact hK _ _ ((Below.refl _ _).alloc (Nat.le_refl _) _) ⟨w'.heap.size, rfl, by simpa using bytes_lit w' [97] #[.int .u8 97] rfl (by decide) (by simp [maxLen])⟩
    · simp only [List.getElem?_toArray, List.getElem?_cons_zero, List.getElem?_cons_succ, Option.some.injEq] at ho
      subst ho
      obtain ⟨v1, e1, b1, rfl, q1⟩ := hin 3 _ 31 rfl rfl ⟨{ on := 3, ground := .data }, by simp, rfl, rfl⟩
      unfold Oper.wp execOp
      go_simp
      refine (hof _ _ _ q1).mono ?_
      rintro e wn ⟨rfl, hbn⟩
      exact hK _ _ hbn rfl
    · simp only [List.getElem?_toArray, List.getElem?_cons_zero, List.getElem?_cons_succ, Option.some.injEq] at ho
      subst ho
      obtain ⟨v1, e1, q1⟩ := hin 4 _ 32 rfl rfl ⟨{ on := 4, ground := .data }, by simp, rfl, rfl⟩
      have q2 : v1 = SV S := q1
      subst q2
      unfold Oper.wp execOp
      go_simp
      exact hK _ _ (Below.refl _ _) ⟨_, rfl, at_plain S (by rfl) (by rfl) (by rfl) (by rfl)⟩
    · simp only [List.getElem?_toArray, List.getElem?_cons_zero, List.getElem?_cons_succ, Option.some.injEq] at ho
      subst ho
      refine wp_load_node _ rfl (w2.heap.size) 0 cA (eval_tmp (by rw [hk 1 (by kernel_rfl)]; rfl)) (h9cA w' hB) ?_
      exact hK _ _ (Below.refl _ _) ⟨cA, rfl, hatcA w' hB⟩
    · simp only [List.getElem?_toArray, List.getElem?_cons_zero, List.getElem?_cons_succ, Option.some.injEq] at ho
      subst ho
      obtain ⟨v0, e0, c0, rfl, q0⟩ := hin 6 _ 34 rfl rfl ⟨{ on := 6, ground := .data }, by simp, rfl, rfl⟩
      obtain ⟨s0, l0, h0, m0, p0, g0, z0, k0⟩ := at_cells q0
      clear z0
      have hr := row_made [(nA S, c0)] (by simp only [List.forall_mem_cons]; exact ⟨q0, fun p hp => by cases hp⟩)
      clear q0
      rw [k0] at e0 hr
      clear k0
      have Hr := Lib.hid hr
      clear hr
      unfold Oper.wp execOp
      go_simp
      exact hK _ _ ((Below.refl _ _).alloc (Nat.le_refl _) _) Hr.out
    · simp only [List.getElem?_toArray, List.getElem?_cons_zero, List.getElem?_cons_succ, Option.some.injEq] at ho
      subst ho
      obtain ⟨v1, e1, b1, rfl, q1, r1⟩ := hin 7 _ 35 rfl rfl ⟨{ on := 7, ground := .data }, by simp, rfl, rfl⟩
      unfold Oper.wp execOp
      go_simp
      exact hK _ _ (Below.refl _ _) ⟨_, rfl, at_row (by rfl) (by rfl) (by rfl) (by rfl) _ (by simp [maxLen]) q1 r1⟩
    · simp only [List.getElem?_toArray, List.getElem?_cons_zero, List.getElem?_cons_succ, Option.some.injEq] at ho
      subst ho
      refine wp_load_node _ rfl (w2.heap.size) 0 cA (eval_tmp (by rw [hk 1 (by kernel_rfl)]; rfl)) (h9cA w' hB) ?_
      exact hK _ _ (Below.refl _ _) ⟨cA, rfl, hatcA w' hB⟩
    · simp only [List.getElem?_toArray, List.getElem?_cons_zero, List.getElem?_cons_succ, Option.some.injEq] at ho
      subst ho
      obtain ⟨v0, e0, c0, rfl, q0⟩ := hin 9 _ 37 rfl rfl ⟨{ on := 9, ground := .data }, by simp, rfl, rfl⟩
      obtain ⟨s0, l0, h0, m0, p0, g0, z0, k0⟩ := at_cells q0
      clear z0
      have hr := row_made [(nA S, c0)] (by simp only [List.forall_mem_cons]; exact ⟨q0, fun p hp => by cases hp⟩)
      clear q0
      rw [k0] at e0 hr
      clear k0
      have Hr := Lib.hid hr
      clear hr
      unfold Oper.wp execOp
      go_simp
      exact hK _ _ ((Below.refl _ _).alloc (Nat.le_refl _) _) Hr.out
    · simp only [List.getElem?_toArray, List.getElem?_cons_zero, List.getElem?_cons_succ, Option.some.injEq] at ho
      subst ho
      obtain ⟨v1, e1, b1, rfl, q1, r1⟩ := hin 10 _ 38 rfl rfl ⟨{ on := 10, ground := .data }, by simp, rfl, rfl⟩
      unfold Oper.wp execOp
      go_simp
      exact hK _ _ (Below.refl _ _) ⟨_, rfl, at_row (by rfl) (by rfl) (by rfl) (by rfl) _ (by simp [maxLen]) q1 r1⟩
    · simp only [List.getElem?_toArray, List.getElem?_cons_zero, List.getElem?_cons_succ, Option.some.injEq] at ho
      subst ho
      refine wp_load_node _ rfl (w2.heap.size) 0 cA (eval_tmp (by rw [hk 1 (by kernel_rfl)]; rfl)) (h9cA w' hB) ?_
      exact hK _ _ (Below.refl _ _) ⟨cA, rfl, hatcA w' hB⟩
    · simp only [List.getElem?_toArray, List.getElem?_cons_zero, List.getElem?_cons_succ, Option.some.injEq] at ho
      subst ho
      refine wp_load_node _ rfl (w2.heap.size + 1 + 1) 0 cR (eval_tmp (by rw [hk 2 (by kernel_rfl)]; rfl)) (h9cR w' hB) ?_
      exact hK _ _ (Below.refl _ _) ⟨cR, rfl, hatcR w' hB⟩
    · simp only [List.getElem?_toArray, List.getElem?_cons_zero, List.getElem?_cons_succ, Option.some.injEq] at ho
      subst ho
      obtain ⟨v0, e0, c0, rfl, q0⟩ := hin 12 _ 40 rfl rfl ⟨{ on := 12, ground := .data }, by simp, rfl, rfl⟩
      obtain ⟨s0, l0, h0, m0, p0, g0, z0, k0⟩ := at_cells q0
      clear z0
      obtain ⟨v1, e1, c1, rfl, q1⟩ := hin 13 _ 41 rfl rfl ⟨{ on := 13, ground := .data }, by simp, rfl, rfl⟩
      obtain ⟨s1, l1, h1, m1, p1, g1, z1, k1⟩ := at_cells q1
      clear z1
      have hr := row_made [(nA S, c0), ((nRow S), c1)] (by simp only [List.forall_mem_cons]; exact ⟨q0, q1, fun p hp => by cases hp⟩)
      clear q0
      rw [k0] at e0 hr
      clear k0
      clear q1
      rw [k1] at e1 hr
      clear k1
      have Hr := Lib.hid hr
      clear hr
      unfold Oper.wp execOp
      go_simp
      exact hK _ _ ((Below.refl _ _).alloc (Nat.le_refl _) _) Hr.out
    · simp only [List.getElem?_toArray, List.getElem?_cons_zero, List.getElem?_cons_succ, Option.some.injEq] at ho
      subst ho
      obtain ⟨v1, e1, b1, rfl, q1, r1⟩ := hin 14 _ 42 rfl rfl ⟨{ on := 14, ground := .data }, by simp, rfl, rfl⟩
      unfold Oper.wp execOp
      go_simp
      exact hK _ _ (Below.refl _ _) ⟨_, rfl, at_row (by rfl) (by rfl) (by rfl) (by rfl) _ (by simp [maxLen]) q1 r1⟩
    · simp only [List.getElem?_toArray, List.getElem?_cons_zero, List.getElem?_cons_succ, Option.some.injEq] at ho
      subst ho
      refine wp_load_node _ rfl (w2.heap.size) 0 cA (eval_tmp (by rw [hk 1 (by kernel_rfl)]; rfl)) (h9cA w' hB) ?_
      exact hK _ _ (Below.refl _ _) ⟨cA, rfl, hatcA w' hB⟩
    · simp only [List.getElem?_toArray, List.getElem?_cons_zero, List.getElem?_cons_succ, Option.some.injEq] at ho
      subst ho
      refine wp_load_node _ rfl (w2.heap.size + 1 + 1 + 1 + 1) 0 cO (eval_tmp (by rw [hk 3 (by kernel_rfl)]; rfl)) (h9cO w' hB) ?_
      exact hK _ _ (Below.refl _ _) ⟨cO, rfl, hatcO w' hB⟩
    · simp only [List.getElem?_toArray, List.getElem?_cons_zero, List.getElem?_cons_succ, Option.some.injEq] at ho
      subst ho
      obtain ⟨v0, e0, c0, rfl, q0⟩ := hin 16 _ 44 rfl rfl ⟨{ on := 16, ground := .data }, by simp, rfl, rfl⟩
      obtain ⟨s0, l0, h0, m0, p0, g0, z0, k0⟩ := at_cells q0
      clear z0
      obtain ⟨v1, e1, c1, rfl, q1⟩ := hin 17 _ 45 rfl rfl ⟨{ on := 17, ground := .data }, by simp, rfl, rfl⟩
      obtain ⟨s1, l1, h1, m1, p1, g1, z1, k1⟩ := at_cells q1
      clear z1
      have hr := row_made [(nA S, c0), ((nOf S), c1)] (by simp only [List.forall_mem_cons]; exact ⟨q0, q1, fun p hp => by cases hp⟩)
      clear q0
      rw [k0] at e0 hr
      clear k0
      clear q1
      rw [k1] at e1 hr
      clear k1
      have Hr := Lib.hid hr
      clear hr
      unfold Oper.wp execOp
      go_simp
      exact hK _ _ ((Below.refl _ _).alloc (Nat.le_refl _) _) Hr.out
    · simp only [List.getElem?_toArray, List.getElem?_cons_zero, List.getElem?_cons_succ, Option.some.injEq] at ho
      subst ho
      obtain ⟨v1, e1, b1, rfl, q1, r1⟩ := hin 18 _ 46 rfl rfl ⟨{ on := 18, ground := .data }, by simp, rfl, rfl⟩
      unfold Oper.wp execOp
      go_simp
      exact hK _ _ (Below.refl _ _) ⟨_, rfl, at_row (by rfl) (by rfl) (by rfl) (by rfl) _ (by simp [maxLen]) q1 r1⟩
    · simp only [List.getElem?_toArray, List.getElem?_cons_zero, List.getElem?_cons_succ, Option.some.injEq] at ho
      subst ho
      refine wp_load_node _ rfl (w2.heap.size) 0 cA (eval_tmp (by rw [hk 1 (by kernel_rfl)]; rfl)) (h9cA w' hB) ?_
      exact hK _ _ (Below.refl _ _) ⟨cA, rfl, hatcA w' hB⟩
    · simp only [List.getElem?_toArray, List.getElem?_cons_zero, List.getElem?_cons_succ, Option.some.injEq] at ho
      subst ho
      refine wp_load_node _ rfl (w2.heap.size + 1 + 1 + 1 + 1) 0 cO (eval_tmp (by rw [hk 3 (by kernel_rfl)]; rfl)) (h9cO w' hB) ?_
      exact hK _ _ (Below.refl _ _) ⟨cO, rfl, hatcO w' hB⟩
    · simp only [List.getElem?_toArray, List.getElem?_cons_zero, List.getElem?_cons_succ, Option.some.injEq] at ho
      subst ho
      obtain ⟨v0, e0, c0, rfl, q0⟩ := hin 20 _ 48 rfl rfl ⟨{ on := 20, ground := .data }, by simp, rfl, rfl⟩
      obtain ⟨s0, l0, h0, m0, p0, g0, z0, k0⟩ := at_cells q0
      clear z0
      obtain ⟨v1, e1, c1, rfl, q1⟩ := hin 21 _ 49 rfl rfl ⟨{ on := 21, ground := .data }, by simp, rfl, rfl⟩
      obtain ⟨s1, l1, h1, m1, p1, g1, z1, k1⟩ := at_cells q1
      clear z1
      have hr := row_made [(nA S, c0), ((nOf S), c1)] (by simp only [List.forall_mem_cons]; exact ⟨q0, q1, fun p hp => by cases hp⟩)
      clear q0
      rw [k0] at e0 hr
      clear k0
      clear q1
      rw [k1] at e1 hr
      clear k1
      have Hr := Lib.hid hr
      clear hr
      unfold Oper.wp execOp
      go_simp
      exact hK _ _ ((Below.refl _ _).alloc (Nat.le_refl _) _) Hr.out
    · simp only [List.getElem?_toArray, List.getElem?_cons_zero, List.getElem?_cons_succ, Option.some.injEq] at ho
      subst ho
      obtain ⟨v1, e1, b1, rfl, q1, r1⟩ := hin 22 _ 50 rfl rfl ⟨{ on := 22, ground := .data }, by simp, rfl, rfl⟩
      unfold Oper.wp execOp
      go_simp
      exact hK _ _ (Below.refl _ _) ⟨_, rfl, at_row (by rfl) (by rfl) (by rfl) (by rfl) _ (by simp [maxLen]) q1 r1⟩
    · simp only [List.getElem?_toArray, List.getElem?_cons_zero, List.getElem?_cons_succ, Option.some.injEq] at ho
      subst ho
      refine wp_load_node _ rfl (w2.heap.size + 1 + 1 + 1 + 1 + 1 + 1) 0 cP (eval_tmp (by rw [hk 4 (by kernel_rfl)]; rfl)) (h9cP w' hB) ?_
      exact hK _ _ (Below.refl _ _) ⟨cP, rfl, hatcP w' hB⟩
    · simp only [List.getElem?_toArray, List.getElem?_cons_zero, List.getElem?_cons_succ, Option.some.injEq] at ho
      subst ho
      obtain ⟨v0, e0, c0, rfl, q0⟩ := hin 24 _ 52 rfl rfl ⟨{ on := 24, ground := .data }, by simp, rfl, rfl⟩
      obtain ⟨s0, l0, h0, m0, p0, g0, z0, k0⟩ := at_cells q0
      clear z0
      have hr := row_made [((nRep S), c0)] (by simp only [List.forall_mem_cons]; exact ⟨q0, fun p hp => by cases hp⟩)
      clear q0
      rw [k0] at e0 hr
      clear k0
      have Hr := Lib.hid hr
      clear hr
      unfold Oper.wp execOp
      go_simp
      exact hK _ _ ((Below.refl _ _).alloc (Nat.le_refl _) _) Hr.out
    · simp only [List.getElem?_toArray, List.getElem?_cons_zero, List.getElem?_cons_succ, Option.some.injEq] at ho
      subst ho
      obtain ⟨v1, e1, b1, rfl, q1, r1⟩ := hin 25 _ 53 rfl rfl ⟨{ on := 25, ground := .data }, by simp, rfl, rfl⟩
      unfold Oper.wp execOp
      go_simp
      exact hK _ _ (Below.refl _ _) ⟨_, rfl, at_row (by rfl) (by rfl) (by rfl) (by rfl) _ (by simp [maxLen]) q1 r1⟩
    · simp only [List.getElem?_toArray, List.getElem?_cons_zero, List.getElem?_cons_succ, Option.some.injEq] at ho
      subst ho
      refine wp_load_node _ rfl (w2.heap.size + 1 + 1) 0 cR (eval_tmp (by rw [hk 2 (by kernel_rfl)]; rfl)) (h9cR w' hB) ?_
      exact hK _ _ (Below.refl _ _) ⟨cR, rfl, hatcR w' hB⟩
    · simp only [List.getElem?_toArray, List.getElem?_cons_zero, List.getElem?_cons_succ, Option.some.injEq] at ho
      subst ho
      obtain ⟨v0, e0, c0, rfl, q0⟩ := hin 27 _ 55 rfl rfl ⟨{ on := 27, ground := .data }, by simp, rfl, rfl⟩
      obtain ⟨s0, l0, h0, m0, p0, g0, z0, k0⟩ := at_cells q0
      clear z0
      have hr := row_made [((nRow S), c0)] (by simp only [List.forall_mem_cons]; exact ⟨q0, fun p hp => by cases hp⟩)
      clear q0
      rw [k0] at e0 hr
      clear k0
      have Hr := Lib.hid hr
      clear hr
      unfold Oper.wp execOp
      go_simp
      exact hK _ _ ((Below.refl _ _).alloc (Nat.le_refl _) _) Hr.out
    · simp only [List.getElem?_toArray, List.getElem?_cons_zero, List.getElem?_cons_succ, Option.some.injEq] at ho
      subst ho
      obtain ⟨v1, e1, b1, rfl, q1, r1⟩ := hin 28 _ 56 rfl rfl ⟨{ on := 28, ground := .data }, by simp, rfl, rfl⟩
      unfold Oper.wp execOp
      go_simp
      exact hK _ _ (Below.refl _ _) ⟨_, rfl, at_row (by rfl) (by rfl) (by rfl) (by rfl) _ (by simp [maxLen]) q1 r1⟩
    · simp only [List.getElem?_toArray, List.getElem?_cons_zero, List.getElem?_cons_succ, Option.some.injEq] at ho
      subst ho
      refine wp_load_node _ rfl (w2.heap.size) 0 cA (eval_tmp (by rw [hk 1 (by kernel_rfl)]; rfl)) (h9cA w' hB) ?_
      exact hK _ _ (Below.refl _ _) ⟨cA, rfl, hatcA w' hB⟩
    · simp only [List.getElem?_toArray, List.getElem?_cons_zero, List.getElem?_cons_succ, Option.some.injEq] at ho
      subst ho
      obtain ⟨v0, e0, c0, rfl, q0⟩ := hin 30 _ 58 rfl rfl ⟨{ on := 30, ground := .data }, by simp, rfl, rfl⟩
      obtain ⟨s0, l0, h0, m0, p0, g0, z0, k0⟩ := at_cells q0
      clear z0
      have hr := row_made [(nA S, c0)] (by simp only [List.forall_mem_cons]; exact ⟨q0, fun p hp => by cases hp⟩)
      clear q0
      rw [k0] at e0 hr
      clear k0
      have Hr := Lib.hid hr
      clear hr
      unfold Oper.wp execOp
      go_simp
      exact hK _ _ ((Below.refl _ _).alloc (Nat.le_refl _) _) Hr.out
    · simp only [List.getElem?_toArray, List.getElem?_cons_zero, List.getElem?_cons_succ, Option.some.injEq] at ho
      subst ho
      obtain ⟨v1, e1, b1, rfl, q1, r1⟩ := hin 31 _ 59 rfl rfl ⟨{ on := 31, ground := .data }, by simp, rfl, rfl⟩
      unfold Oper.wp execOp
      go_simp
      exact hK _ _ (Below.refl _ _) ⟨_, rfl, at_row (by rfl) (by rfl) (by rfl) (by rfl) _ (by simp [maxLen]) q1 r1⟩
    · simp only [List.getElem?_toArray, List.getElem?_cons_zero, List.getElem?_cons_succ, Option.some.injEq] at ho
      subst ho
      refine wp_load_node _ rfl (w2.heap.size) 0 cA (eval_tmp (by rw [hk 1 (by kernel_rfl)]; rfl)) (h9cA w' hB) ?_
      exact hK _ _ (Below.refl _ _) ⟨cA, rfl, hatcA w' hB⟩
    · simp only [List.getElem?_toArray, List.getElem?_cons_zero, List.getElem?_cons_succ, Option.some.injEq] at ho
      subst ho
      obtain ⟨v0, e0, c0, rfl, q0⟩ := hin 33 _ 61 rfl rfl ⟨{ on := 33, ground := .data }, by simp, rfl, rfl⟩
      obtain ⟨s0, l0, h0, m0, p0, g0, z0, k0⟩ := at_cells q0
      clear z0
      have hr := row_made [(nA S, c0)] (by simp only [List.forall_mem_cons]; exact ⟨q0, fun p hp => by cases hp⟩)
      clear q0
      rw [k0] at e0 hr
      clear k0
      have Hr := Lib.hid hr
      clear hr
      unfold Oper.wp execOp
      go_simp
      exact hK _ _ ((Below.refl _ _).alloc (Nat.le_refl _) _) Hr.out
    · simp only [List.getElem?_toArray, List.getElem?_cons_zero, List.getElem?_cons_succ, Option.some.injEq] at ho
      subst ho
      obtain ⟨v1, e1, b1, rfl, q1, r1⟩ := hin 34 _ 62 rfl rfl ⟨{ on := 34, ground := .data }, by simp, rfl, rfl⟩
      unfold Oper.wp execOp
      go_simp
      exact hK _ _ (Below.refl _ _) ⟨_, rfl, at_row (by rfl) (by rfl) (by rfl) (by rfl) _ (by simp [maxLen]) q1 r1⟩
    · simp only [List.getElem?_toArray, List.getElem?_cons_zero, List.getElem?_cons_succ, Option.some.injEq] at ho
      subst ho
      refine wp_load_node _ rfl (w2.heap.size) 0 cA (eval_tmp (by rw [hk 1 (by kernel_rfl)]; rfl)) (h9cA w' hB) ?_
      exact hK _ _ (Below.refl _ _) ⟨cA, rfl, hatcA w' hB⟩
    · simp only [List.getElem?_toArray, List.getElem?_cons_zero, List.getElem?_cons_succ, Option.some.injEq] at ho
      subst ho
      obtain ⟨v0, e0, c0, rfl, q0⟩ := hin 36 _ 64 rfl rfl ⟨{ on := 36, ground := .data }, by simp, rfl, rfl⟩
      obtain ⟨s0, l0, h0, m0, p0, g0, z0, k0⟩ := at_cells q0
      clear z0
      have hr := row_made [(nA S, c0)] (by simp only [List.forall_mem_cons]; exact ⟨q0, fun p hp => by cases hp⟩)
      clear q0
      rw [k0] at e0 hr
      clear k0
      have Hr := Lib.hid hr
      clear hr
      unfold Oper.wp execOp
      go_simp
      exact hK _ _ ((Below.refl _ _).alloc (Nat.le_refl _) _) Hr.out
    · simp only [List.getElem?_toArray, List.getElem?_cons_zero, List.getElem?_cons_succ, Option.some.injEq] at ho
      subst ho
      obtain ⟨v1, e1, b1, rfl, q1, r1⟩ := hin 37 _ 65 rfl rfl ⟨{ on := 37, ground := .data }, by simp, rfl, rfl⟩
      unfold Oper.wp execOp
      go_simp
      exact hK _ _ (Below.refl _ _) ⟨_, rfl, at_row (by rfl) (by rfl) (by rfl) (by rfl) _ (by simp [maxLen]) q1 r1⟩
    · simp only [List.getElem?_toArray, List.getElem?_cons_zero, List.getElem?_cons_succ, Option.some.injEq] at ho
      subst ho
      refine wp_load_node _ rfl (w2.heap.size) 0 cA (eval_tmp (by rw [hk 1 (by kernel_rfl)]; rfl)) (h9cA w' hB) ?_
      exact hK _ _ (Below.refl _ _) ⟨cA, rfl, hatcA w' hB⟩
    · simp only [List.getElem?_toArray, List.getElem?_cons_zero, List.getElem?_cons_succ, Option.some.injEq] at ho
      subst ho
      refine wp_load_node _ rfl (w2.heap.size) 0 cA (eval_tmp (by rw [hk 1 (by kernel_rfl)]; rfl)) (h9cA w' hB) ?_
      exact hK _ _ (Below.refl _ _) ⟨cA, rfl, hatcA w' hB⟩
    · simp only [List.getElem?_toArray, List.getElem?_cons_zero, List.getElem?_cons_succ, Option.some.injEq] at ho
      subst ho
      obtain ⟨v0, e0, c0, rfl, q0⟩ := hin 39 _ 67 rfl rfl ⟨{ on := 39, ground := .data }, by simp, rfl, rfl⟩
      obtain ⟨s0, l0, h0, m0, p0, g0, z0, k0⟩ := at_cells q0
      clear z0
      obtain ⟨v1, e1, c1, rfl, q1⟩ := hin 40 _ 68 rfl rfl ⟨{ on := 40, ground := .data }, by simp, rfl, rfl⟩
      obtain ⟨s1, l1, h1, m1, p1, g1, z1, k1⟩ := at_cells q1
      clear z1
      have hr := row_made [(nA S, c0), (nA S, c1)] (by simp only [List.forall_mem_cons]; exact ⟨q0, q1, fun p hp => by cases hp⟩)
      clear q0
      rw [k0] at e0 hr
      clear k0
      clear q1
      rw [k1] at e1 hr
      clear k1
      have Hr := Lib.hid hr
      clear hr
      unfold Oper.wp execOp
      go_simp
      exact hK _ _ ((Below.refl _ _).alloc (Nat.le_refl _) _) Hr.out
    · simp only [List.getElem?_toArray, List.getElem?_cons_zero, List.getElem?_cons_succ, Option.some.injEq] at ho
      subst ho
      obtain ⟨v1, e1, b1, rfl, q1, r1⟩ := hin 41 _ 69 rfl rfl ⟨{ on := 41, ground := .data }, by simp, rfl, rfl⟩
      unfold Oper.wp execOp
      go_simp
      exact hK _ _ (Below.refl _ _) ⟨_, rfl, at_row (by rfl) (by rfl) (by rfl) (by rfl) _ (by simp [maxLen]) q1 r1⟩
    · simp only [List.getElem?_toArray, List.getElem?_cons_zero, List.getElem?_cons_succ, Option.some.injEq] at ho
      subst ho
      refine wp_load_node _ rfl (w2.heap.size) 0 cA (eval_tmp (by rw [hk 1 (by kernel_rfl)]; rfl)) (h9cA w' hB) ?_
      exact hK _ _ (Below.refl _ _) ⟨cA, rfl, hatcA w' hB⟩
    · simp only [List.getElem?_toArray, List.getElem?_cons_zero, List.getElem?_cons_succ, Option.some.injEq] at ho
      subst ho
      obtain ⟨v0, e0, c0, rfl, q0⟩ := hin 43 _ 71 rfl rfl ⟨{ on := 43, ground := .data }, by simp, rfl, rfl⟩
      obtain ⟨s0, l0, h0, m0, p0, g0, z0, k0⟩ := at_cells q0
      clear z0
      have hr := row_made [(nA S, c0)] (by simp only [List.forall_mem_cons]; exact ⟨q0, fun p hp => by cases hp⟩)
      clear q0
      rw [k0] at e0 hr
      clear k0
      have Hr := Lib.hid hr
      clear hr
      unfold Oper.wp execOp
      go_simp
      exact hK _ _ ((Below.refl _ _).alloc (Nat.le_refl _) _) Hr.out
    · simp only [List.getElem?_toArray, List.getElem?_cons_zero, List.getElem?_cons_succ, Option.some.injEq] at ho
      subst ho
      obtain ⟨v1, e1, b1, rfl, q1, r1⟩ := hin 44 _ 72 rfl rfl ⟨{ on := 44, ground := .data }, by simp, rfl, rfl⟩
      unfold Oper.wp execOp
      go_simp
      exact hK _ _ (Below.refl _ _) ⟨_, rfl, at_row (by rfl) (by rfl) (by rfl) (by rfl) _ (by simp [maxLen]) q1 r1⟩
    · simp only [List.getElem?_toArray, List.getElem?_cons_zero, List.getElem?_cons_succ, Option.some.injEq] at ho
      subst ho
      obtain ⟨v0, e0, c0, rfl, q0⟩ := hin 0 _ 28 rfl rfl ⟨{ on := 0, ground := .data }, by simp, rfl, rfl⟩
      obtain ⟨s0, l0, h0, m0, p0, g0, z0, k0⟩ := at_cells q0
      clear z0
      obtain ⟨v1, e1, c1, rfl, q1⟩ := hin 1 _ 29 rfl rfl ⟨{ on := 1, ground := .data }, by simp, rfl, rfl⟩
      obtain ⟨s1, l1, h1, m1, p1, g1, z1, k1⟩ := at_cells q1
      clear z1
      obtain ⟨v2, e2, c2, rfl, q2⟩ := hin 2 _ 30 rfl rfl ⟨{ on := 2, ground := .data }, by simp, rfl, rfl⟩
      obtain ⟨s2, l2, h2, m2, p2, g2, z2, k2⟩ := at_cells q2
      clear z2
      obtain ⟨v3, e3, c3, rfl, q3⟩ := hin 5 _ 33 rfl rfl ⟨{ on := 5, ground := .data }, by simp, rfl, rfl⟩
      obtain ⟨s3, l3, h3, m3, p3, g3, z3, k3⟩ := at_cells q3
      clear z3
      obtain ⟨v4, e4, c4, rfl, q4⟩ := hin 8 _ 36 rfl rfl ⟨{ on := 8, ground := .data }, by simp, rfl, rfl⟩
      obtain ⟨s4, l4, h4, m4, p4, g4, z4, k4⟩ := at_cells q4
      clear z4
      obtain ⟨v5, e5, c5, rfl, q5⟩ := hin 11 _ 39 rfl rfl ⟨{ on := 11, ground := .data }, by simp, rfl, rfl⟩
      obtain ⟨s5, l5, h5, m5, p5, g5, z5, k5⟩ := at_cells q5
      clear z5
      obtain ⟨v6, e6, c6, rfl, q6⟩ := hin 15 _ 43 rfl rfl ⟨{ on := 15, ground := .data }, by simp, rfl, rfl⟩
      obtain ⟨s6, l6, h6, m6, p6, g6, z6, k6⟩ := at_cells q6
      clear z6
      obtain ⟨v7, e7, c7, rfl, q7⟩ := hin 19 _ 47 rfl rfl ⟨{ on := 19, ground := .data }, by simp, rfl, rfl⟩
      obtain ⟨s7, l7, h7, m7, p7, g7, z7, k7⟩ := at_cells q7
      clear z7
      obtain ⟨v8, e8, c8, rfl, q8⟩ := hin 23 _ 51 rfl rfl ⟨{ on := 23, ground := .data }, by simp, rfl, rfl⟩
      obtain ⟨s8, l8, h8, m8, p8, g8, z8, k8⟩ := at_cells q8
      clear z8
      obtain ⟨v9, e9, c9, rfl, q9⟩ := hin 26 _ 54 rfl rfl ⟨{ on := 26, ground := .data }, by simp, rfl, rfl⟩
      obtain ⟨s9, l9, h9, m9, p9, g9, z9, k9⟩ := at_cells q9
      clear z9
      obtain ⟨v10, e10, c10, rfl, q10⟩ := hin 29 _ 57 rfl rfl ⟨{ on := 29, ground := .data }, by simp, rfl, rfl⟩
      obtain ⟨s10, l10, h10, m10, p10, g10, z10, k10⟩ := at_cells q10
      clear z10
      obtain ⟨v11, e11, c11, rfl, q11⟩ := hin 32 _ 60 rfl rfl ⟨{ on := 32, ground := .data }, by simp, rfl, rfl⟩
      obtain ⟨s11, l11, h11, m11, p11, g11, z11, k11⟩ := at_cells q11
      clear z11
      obtain ⟨v12, e12, c12, rfl, q12⟩ := hin 35 _ 63 rfl rfl ⟨{ on := 35, ground := .data }, by simp, rfl, rfl⟩
      obtain ⟨s12, l12, h12, m12, p12, g12, z12, k12⟩ := at_cells q12
      clear z12
      obtain ⟨v13, e13, c13, rfl, q13⟩ := hin 38 _ 66 rfl rfl ⟨{ on := 38, ground := .data }, by simp, rfl, rfl⟩
      obtain ⟨s13, l13, h13, m13, p13, g13, z13, k13⟩ := at_cells q13
      clear z13
      obtain ⟨v14, e14, c14, rfl, q14⟩ := hin 42 _ 70 rfl rfl ⟨{ on := 42, ground := .data }, by simp, rfl, rfl⟩
      obtain ⟨s14, l14, h14, m14, p14, g14, z14, k14⟩ := at_cells q14
      clear z14
      obtain ⟨v15, e15, c15, rfl, q15⟩ := hin 45 _ 73 rfl rfl ⟨{ on := 45, ground := .data }, by simp, rfl, rfl⟩
      obtain ⟨s15, l15, h15, m15, p15, g15, z15, k15⟩ := at_cells q15
      clear z15
      have hr := row_made [((.mk 0 0 0 0 0 []), c0), ((.mk 1 0 0 0 0 []), c1), ((.mk 7 0 0 0 0 []), c2), ((.mk 1 S 0 0 1 []), c3), ((.mk 2 0 0 0 0 [nA S]), c4), ((.mk 3 0 0 0 0 [nA S]), c5), ((.mk 2 0 0 0 0 [nA S, nRow S]), c6), ((.mk 2 0 0 0 0 [nA S, nOf S]), c7), ((.mk 3 0 0 0 0 [nA S, nOf S]), c8), ((.mk 4 0 0 0 0 [nRep S]), c9), ((.mk 4 0 0 0 0 [nRow S]), c10), ((.mk 4 0 2 1 0 [nA S]), c11), ((.mk 4 0 256 (-1) 0 [nA S]), c12), ((.mk 4 0 0 (-2) 0 [nA S]), c13), ((.mk 6 0 0 0 0 [nA S, nA S]), c14), ((.mk 6 0 0 0 1 [nA S]), c15)] (by simp only [List.forall_mem_cons]; exact ⟨q0, q1, q2, q3, q4, q5, q6, q7, q8, q9, q10, q11, q12, q13, q14, q15, fun p hp => by cases hp⟩)
      clear q0
      rw [k0] at e0 hr
      clear k0
      clear q1
      rw [k1] at e1 hr
      clear k1
      clear q2
      rw [k2] at e2 hr
      clear k2
      clear q3
      rw [k3] at e3 hr
      clear k3
      clear q4
      rw [k4] at e4 hr
      clear k4
      clear q5
      rw [k5] at e5 hr
      clear k5
      clear q6
      rw [k6] at e6 hr
      clear k6
      clear q7
      rw [k7] at e7 hr
      clear k7
      clear q8
      rw [k8] at e8 hr
      clear k8
      clear q9
      rw [k9] at e9 hr
      clear k9
      clear q10
      rw [k10] at e10 hr
      clear k10
      clear q11
      rw [k11] at e11 hr
      clear k11
      clear q12
      rw [k12] at e12 hr
      clear k12
      clear q13
      rw [k13] at e13 hr
      clear k13
      clear q14
      rw [k14] at e14 hr
      clear k14
      clear q15
      rw [k15] at e15 hr
      clear k15
      have Hr := Lib.hid hr
      clear hr
      unfold Oper.wp execOp
      go_simp
      exact hK _ _ ((Below.refl _ _).alloc (Nat.le_refl _) _) Hr.out
    · simp only [List.getElem?_toArray, List.getElem?_cons_zero, List.getElem?_cons_succ, Option.some.injEq] at ho
      subst ho
      obtain ⟨v1, e1, b1, rfl, q1, r1⟩ := hin 46 _ 74 rfl rfl ⟨{ on := 46, ground := .data }, by simp, rfl, rfl⟩
      unfold Oper.wp execOp
      go_simp
      exact hK _ _ (Below.refl _ _) ⟨b1, rfl, q1, r1⟩
   case hend =>
    intro a' w' hB hdef hsz hk hvals
    obtain ⟨v, hv, b, rfl, hb, hrow⟩ := hvals 47 _ 5 rfl rfl
    have hf5 : a'.tmps.getD 5 undef = .slice (some ⟨b, 0, none⟩) 16 16 := by rw [Array.getD_eq_getD_getElem?, hv]; rfl
    have heq := act_eq hdef hsz hk
    refine hMet a' w' (Met.intro (hR a' w' ?_))
    refine ⟨a'.tmps.getD 5 undef, a'.tmps.getD 28 undef, a'.tmps.getD 29 undef, a'.tmps.getD 30 undef, a'.tmps.getD 31 undef, a'.tmps.getD 32 undef, a'.tmps.getD 33 undef, a'.tmps.getD 34 undef, a'.tmps.getD 35 undef, a'.tmps.getD 36 undef, a'.tmps.getD 37 undef, a'.tmps.getD 38 undef, a'.tmps.getD 39 undef, a'.tmps.getD 40 undef, a'.tmps.getD 41 undef, a'.tmps.getD 42 undef, a'.tmps.getD 43 undef, a'.tmps.getD 44 undef, a'.tmps.getD 45 undef, a'.tmps.getD 46 undef, a'.tmps.getD 47 undef, a'.tmps.getD 48 undef, a'.tmps.getD 49 undef, a'.tmps.getD 50 undef, a'.tmps.getD 51 undef, a'.tmps.getD 52 undef, a'.tmps.getD 53 undef, a'.tmps.getD 54 undef, a'.tmps.getD 55 undef, a'.tmps.getD 56 undef, a'.tmps.getD 57 undef, a'.tmps.getD 58 undef, a'.tmps.getD 59 undef, a'.tmps.getD 60 undef, a'.tmps.getD 61 undef, a'.tmps.getD 62 undef, a'.tmps.getD 63 undef, a'.tmps.getD 64 undef, a'.tmps.getD 65 undef, a'.tmps.getD 66 undef, a'.tmps.getD 67 undef, a'.tmps.getD 68 undef, a'.tmps.getD 69 undef, a'.tmps.getD 70 undef, a'.tmps.getD 71 undef, a'.tmps.getD 72 undef, a'.tmps.getD 73 undef, a'.tmps.getD 74 undef, ⟨b, hf5, hb, hrow, hB⟩, heq.trans ?_⟩
    kernel_rfl
  case rest =>
    obtain ⟨b, rfl, hb, hrow, hBc⟩ := hcut
    have Hrow := Lib.hid hrow
    have Hbad : Hid (∀ N ∈ badL S, goodP N 0 = false) := by rw [← hS]; exact bad_all
    have HK : Hid (Known S) := by rw [← hS]; exact known_all
    rw [HcA.out] at h9cA hatcA
    have H9A := Lib.hid h9cA
    have HatA := Lib.hid hatcA
    have H9O := Lib.hid h9cO
    have HatO := Lib.hid hatcO
    have H9P := Lib.hid h9cP
    have HatP := Lib.hid hatcP
    clear hrow h9cA hatcA h9cR hatcR h9cO hatcO h9cP hatcP Hof hS
    go_wp2_with fail
    go_loopw [6] (fun i wr => ∃ j : Nat, i = .int .i64 j ∧ j ≤ 16 ∧ Below wc.heap.size wc wr) (fun i _ => 16 - (intOf i).toNat)
    case atStart => exact ⟨0, rfl, by omega, Below.refl _ _⟩
    case round =>
      obtain ⟨j, rfl, hj, hB⟩ := hrel
      by_cases hjn : j < 16
      · have hdj : decide ((j : Int) < 16) = true := by simp; omega
        obtain ⟨cs, hcs, hcell, hchild⟩ := nodes_get wc b (badL S) 0 Hrow.out j hjn
        have h9 : Node9 wr b (0 + j * 9) cs := ⟨hcs, fun q hq => by rw [hB.cell (p := ⟨b, 0 + j * 9 + q, none⟩) hb]; exact hcell q hq⟩
        have hgd := good_walk false false 0 (Nd.at_below hB (Nat.le_refl _) _ _ hchild)
        rw [Hbad.out _ (List.getElem_mem hjn)] at hgd
        obtain ⟨s', lo', hi', n', a2, cap2, hz, hcs'⟩ := at_cells hchild
        clear hz
        generalize (badL S)[j].kind = k' at hcs'
        generalize (badL S)[j].nodes.length = len' at hcs'
        rw [Nat.zero_add] at h9
        subst hcs'
        clear hchild hcell
        go_wp2_with (first | (refine wpList_load_node rfl _ rfl b (j * 9) _ rfl h9 ?_) | (go_at_call 12; refine hgd.mono ?_; clear hgd; rintro e w3 ⟨rfl, hb3⟩) | fail)
        go_roundw
        case rel => exact ⟨j + 1, by go_num, by omega, hB.trans (hb3.mono hB.size)⟩
        case measure => simp [intOf]; omega
      · obtain rfl : j = 16 := by omega
        have hdj : decide ((16 : Int) < 16) = false := by simp
        have hBr := fun (w' : World) (h : Below wr.heap.size wr w') => hBc.trans ((hB.trans (h.mono hB.size)).mono hBc.size)
        have hBr := Lib.hid hBr
        have hA1 := H9A.out wr (hBr.out wr (Below.refl _ _))
        have hg1 := group_any (HatA.out wr (hBr.out wr (Below.refl _ _))) 1 (by rfl)
        go_wp2_with (first
          | (refine wpList_load_node rfl _ rfl (w2.heap.size) 0 _ rfl hA1 ?_)
          | (go_at_call 13; refine hg1.mono ?_; clear hg1 hA1; rintro e w8 ⟨c8, rfl, hat8, hb8⟩; have hc8 := at_cells hat8; have Hat8 := Lib.hid hat8; have HW8 := Lib.hid (hBr.out w8 hb8); clear hat8 hb8; obtain ⟨s8, lo8, hi8, n8, a8, cap8, z8, hc8⟩ := hc8; clear z8; have Hc8 := Lib.hid hc8; rw [hc8]; clear hc8;
             have hA2 := fun X : Obj => H9A.out (w8.alloc X) (HW8.out.alloc HW8.out.size X); have hg2 := fun X : Obj => group_any (HatA.out (w8.alloc X) (HW8.out.alloc HW8.out.size X)) 2 (by rfl))
          | (refine wpList_load_node rfl _ rfl (w2.heap.size) 0 _ rfl (hA2 _) ?_)
          | fail)
        refine (hg2 _).mono ?_
        clear hg2 hA2
        rintro e w9 ⟨c9, rfl, hat9, hb9⟩
        have hc9 := BoxN.cells' hat9
        have Hat9 := Lib.hid hat9
        obtain ⟨k9, s9, lo9, hi9, n9, a9, len9, cap9, hc9⟩ := hc9
        have HW9 := Lib.hid ((HW8.out.alloc HW8.out.size _).trans (hb9.mono (by have := HW8.out.size; simp; omega)))
        have Hbox7 := Lib.hid ((hb9.block w8.heap.size (by simp)).trans (World.alloc_heap_new w8 _))
        have Hc9 := Lib.hid hc9
        rw [hc9]
        clear hc9 hat9
        have hA3 := fun X : Obj => H9A.out (w9.alloc X) (HW9.out.alloc HW9.out.size X)
        go_wp2_with (first | (refine wpList_load_node rfl _ rfl (w2.heap.size) 0 _ rfl (hA3 _) ?_) | fail)
        clear hA3
        obtain ⟨W9, hW9⟩ : ∃ W9, W9 = w9.alloc (.cells #[.int .i64 k9, .int .u64 (word s9 0), .int .u64 (word s9 1), .int .u64 (word s9 2), .int .u64 (word s9 3), .int .i64 lo9, .int .i64 hi9, .int .i64 n9, .slice a9 len9 cap9] 28) := ⟨_, rfl⟩
        rw [← hW9]
        -- the boxes, from W9 on
        have hB9 : Below w9.heap.size w9 W9 := by rw [hW9]; exact (Below.refl _ _).alloc (Nat.le_refl _) _
        have hw7 : Below w7.heap.size w7 W9 := HW9.out.trans (hB9.mono HW9.out.size)
        have hs9 : W9.heap.size = w9.heap.size + 1 := by rw [hW9]; simp
        rw [← hs9]
        have BA : BoxN W9 w2.heap.size (nA S) _ := fun w' h => ⟨H9A.out w' (hw7.trans (h.mono hw7.size)), HatA.out w' (hw7.trans (h.mono hw7.size))⟩
        have BO : BoxN W9 (w2.heap.size + 1 + 1 + 1 + 1) (nOf S) cO := fun w' h => ⟨H9O.out w' (hw7.trans (h.mono hw7.size)), HatO.out w' (hw7.trans (h.mono hw7.size))⟩
        have BP : BoxN W9 (w2.heap.size + 1 + 1 + 1 + 1 + 1 + 1) (nRep S) cP := fun w' h => ⟨H9P.out w' (hw7.trans (h.mono hw7.size)), HatP.out w' (hw7.trans (h.mono hw7.size))⟩
        have BG : BoxN w9 w8.heap.size (nG S) c8 := box_in (by have h := Hbox7.out; rw [Hc8.out]; exact h) (Nd.at_below (((Below.refl _ _).alloc (Nat.le_refl _) _).trans (hb9.mono (by simp))) (Nat.le_refl _) _ _ Hat8.out)
        have BG := BG.later hB9
        have BH : BoxN W9 w9.heap.size (nH S) c9 := box_in (by rw [Hc9.out, hW9]; exact World.alloc_heap_new w9 _) (Nd.at_below hB9 (Nat.le_refl _) _ _ Hat9.out)
        have BA := Lib.hid BA
        have BO := Lib.hid BO
        have BP := Lib.hid BP
        have BG := Lib.hid BG
        have BH := Lib.hid BH
        have hwW : Below w.heap.size w W9 := hb7.trans (hw7.mono hb7.size)
        have HwW := Lib.hid hwW
        have HS9 := Lib.hid hs9
        clear hwW hb9 HW9 Hbox7 hW9 hB9 hw7 hs9 Hat8 Hat9 HW8 hBr hb7
        have Hn9 := Lib.hid (World.alloc_heap_new W9 (.cells #[.int .i64 1, .int .u64 (word S 0), .int .u64 (word S 1), .int .u64 (word S 2), .int .u64 (word S 3), .int .i64 0, .int .i64 0, .int .i64 0, .slice none 0 0] 28))
        go_loopw [10] (fun i wr => ∃ (j : Nat) (cs : List Value), i = .int .i64 j ∧ j ≤ 63 ∧ Hid (NodeIn wr W9.heap.size cs.toArray) ∧ Hid (Nd.at (wr.putObj W9.heap.size (.deferred none)) (nestN S j) cs) ∧ Hid (Below W9.heap.size W9 wr ∧ W9.heap.size < wr.heap.size)) (fun i _ => 63 - (intOf i).toNat)
        case atStart =>
          exact ⟨0, [.int .i64 1, .int .u64 (word S 0), .int .u64 (word S 1), .int .u64 (word S 2), .int .u64 (word S 3), .int .i64 0, .int .i64 0, .int .i64 0, .slice none 0 0], rfl, by omega, Hn9.out, at_plain S (by rfl) (by rfl) (by rfl) (by rfl), (Below.refl _ _).alloc (Nat.le_refl _) _, by simp⟩
        case round =>
          obtain ⟨q, cs9, rfl, hq, hnode, hat, hbel⟩ := hrel
          have h9 := node9_in hnode.out (at_len hat.out)
          obtain ⟨kq, sq, loq, hiq, nq, aq, lenq, capq, hcq⟩ := BoxN.cells' hat.out
          by_cases hq63 : q < 63
          · have hdj : decide ((q : Int) < 63) = true := by simp; omega
            subst hcq
            have hnodeR : ∀ X : Obj, NodeIn (wr.alloc X) W9.heap.size #[.int .i64 kq, .int .u64 (word sq 0), .int .u64 (word sq 1), .int .u64 (word sq 2), .int .u64 (word sq 3), .int .i64 loq, .int .i64 hiq, .int .i64 nq, .slice aq lenq capq] := fun X => (Below.heap_alloc _ _ _ hbel.out.2).trans hnode.out
            have HnodeR := Lib.hid hnodeR
            clear hnodeR
            go_wp2_with (first
              | (refine wpList_load_node rfl _ rfl W9.heap.size 0 _ rfl h9 ?_; clear h9)
              | (refine wpList_store_node rfl _ _ rfl W9.heap.size #[.int .i64 kq, .int .u64 (word sq 0), .int .u64 (word sq 1), .int .u64 (word sq 2), .int .u64 (word sq 3), .int .i64 loq, .int .i64 hiq, .int .i64 nq, .slice aq lenq capq] #[.int .i64 6, .int .u64 0, .int .u64 0, .int .u64 0, .int .u64 0, .int .i64 0, .int .i64 0, .int .i64 0, .slice (some ⟨wr.heap.size, 0, none⟩) 1 1] rfl rfl (HnodeR.out _) rfl rfl (by simp [Value.oneCell']) ?_; intro w3 hn3 ho3; have Hn3 := Lib.hid hn3; have Ho3 := Lib.hid ho3; clear hn3 ho3)
              | fail)
            go_roundw
            case rel =>
              have hlt := hbel.out.2
              have hdead := below_dead Ho3.out hlt
              have hrow : (w3.putObj W9.heap.size (.deferred none)).heap[wr.heap.size]? = _ := (World.putObj_heap_other (by omega)).trans ((Ho3.out.block wr.heap.size (by omega)).trans (World.alloc_heap_new wr _))
              refine ⟨q + 1, _, by go_num, by omega, Hn3.out, at_made (k := 6) (lo := 0) (hi := 0) (n := 0) (by rfl) (by rfl) (by rfl) (by rfl) [(nestN S q, _)] (by simp [maxLen]) (by simpa using Nd.at_below hdead (by simp) _ _ hat.out) (by simpa using hrow), Ho3.out.below (hbel.out.1.alloc (by omega) _) (Nat.le_refl _), by rw [Ho3.out.size]; simp; omega⟩
            case measure => simp [intOf]; omega
          · obtain rfl : q = 63 := by omega
            have hdj : decide ((63 : Int) < 63) = false := by simp
            clear h9
            have BD : BoxN wr W9.heap.size (nD S) cs9 := box_in hnode.out (at_dead hat.out)
            subst hcq
            have BA := Lib.hid (BA.out.later hbel.out.1)
            have BO := Lib.hid (BO.out.later hbel.out.1)
            have BP := Lib.hid (BP.out.later hbel.out.1)
            have BG := Lib.hid (BG.out.later hbel.out.1)
            have BH := Lib.hid (BH.out.later hbel.out.1)
            have BD := Lib.hid BD
            have HwW := Lib.hid (HwW.out.trans (hbel.out.1.mono HwW.out.size))
            have hD3 := (BD.out wr (Below.refl _ _)).1
            clear hnode hat Hn9
            go_wp2_with (first | (refine wpList_load_node rfl _ rfl W9.heap.size 0 _ rfl hD3 ?_) | fail)
            clear hD3
            obtain ⟨W11, hW11⟩ : ∃ W11, W11 = (wr.alloc (.cells #[.int .i64 kq, .int .u64 (word sq 0), .int .u64 (word sq 1), .int .u64 (word sq 2), .int .u64 (word sq 3), .int .i64 loq, .int .i64 hiq, .int .i64 nq, .slice aq lenq capq] 28)).alloc (.cells #[.int .i64 6, .int .u64 0, .int .u64 0, .int .u64 0, .int .u64 0, .int .i64 0, .int .i64 0, .int .i64 0, .slice (some ⟨wr.heap.size, 0, none⟩) 1 1] 28) := ⟨_, rfl⟩
            rw [← hW11]
            have hB11 : Below wr.heap.size wr W11 := by rw [hW11]; exact two_below _ _ _
            have hs11 : W11.heap.size = wr.heap.size + 1 + 1 := by rw [hW11]; simp
            rw [← hs11]
            have BM : BoxN W11 (wr.heap.size + 1) (nM S) [.int .i64 6, .int .u64 0, .int .u64 0, .int .u64 0, .int .u64 0, .int .i64 0, .int .i64 0, .int .i64 0, .slice (some ⟨wr.heap.size, 0, none⟩) 1 1] := by
              refine box_in ?_ ?_
              · rw [hW11]
                have h := World.alloc_heap_new (wr.alloc (.cells #[.int .i64 kq, .int .u64 (word sq 0), .int .u64 (word sq 1), .int .u64 (word sq 2), .int .u64 (word sq 3), .int .i64 loq, .int .i64 hiq, .int .i64 nq, .slice aq lenq capq] 28)) (.cells #[.int .i64 6, .int .u64 0, .int .u64 0, .int .u64 0, .int .u64 0, .int .i64 0, .int .i64 0, .int .i64 0, .slice (some ⟨wr.heap.size, 0, none⟩) 1 1] 28)
                rw [World.size_alloc] at h
                exact h
              · refine at_made (k := 6) (lo := 0) (hi := 0) (n := 0) (by rfl) (by rfl) (by rfl) (by rfl) [(nD S, _)] (by simp [maxLen]) (by simpa using (BD.out W11 hB11).2) ?_
                rw [hW11]
                exact (Below.heap_alloc _ _ _ (by simp)).trans (by simpa using World.alloc_heap_new wr _)
            have BA := Lib.hid (BA.out.later hB11)
            have BO := Lib.hid (BO.out.later hB11)
            have BP := Lib.hid (BP.out.later hB11)
            have BG := Lib.hid (BG.out.later hB11)
            have BH := Lib.hid (BH.out.later hB11)
            have BD := Lib.hid (BD.out.later hB11)
            have BM := Lib.hid BM
            have HwW := Lib.hid (HwW.out.trans (hB11.mono HwW.out.size))
            have Hn12 := Lib.hid (World.alloc_heap_new W11 (.cells #[.int .i64 2, .int .u64 0, .int .u64 0, .int .u64 0, .int .u64 0, .int .i64 0, .int .i64 0, .int .i64 0, .slice none 0 0] 28))
            clear hW11 hB11 hs11
            obtain ⟨cA2, hcA2⟩ : ∃ c : List Value, c = [.int .i64 1, .int .u64 (word S 0), .int .u64 (word S 1), .int .u64 (word S 2), .int .u64 (word S 3), .int .i64 0, .int .i64 0, .int .i64 0, .slice none 0 0] := ⟨_, rfl⟩
            have HcA2 := Lib.hid hcA2
            clear hcA2
            go_loopw [13] (fun i wr => ∃ (j : Nat) (v : Value), i = .int .i64 j ∧ j ≤ 2000 ∧ Hid (NodeIn wr W11.heap.size #[.int .i64 2, .int .u64 0, .int .u64 0, .int .u64 0, .int .u64 0, .int .i64 0, .int .i64 0, .int .i64 0, v]) ∧ Hid (wr.ownsRow (W11.heap.size + 1) 28 9 v j ((List.replicate j (nA S, cA2)).flatMap (·.2))) ∧ Hid (Below W11.heap.size W11 wr ∧ W11.heap.size < wr.heap.size)) (fun i _ => 2000 - (intOf i).toNat)
            case atStart => exact ⟨0, .slice none 0 0, rfl, by omega, Hn12.out, World.ownsRow_nil _ _ _ _, (Below.refl _ _).alloc (Nat.le_refl _) _, by simp⟩
            case round =>
              obtain ⟨q, v, rfl, hq2, hnode2, hown, hbel2⟩ := hrel
              by_cases hq2000 : q < 2000
              · have hdj2 : decide ((q : Int) < 2000) = true := by simp; omega
                have hv := node_cell8 hnode2.out
                have hA2 := fun X : Obj => (BA.out (wr.alloc X) (hbel2.out.1.alloc (Nat.le_of_lt hbel2.out.2) X)).1
                have hA3 := (BA.out wr hbel2.out.1).1
                have HA2 := Lib.hid hA2
                clear hA2
                have hrowc : ∀ u ∈ ([.int .i64 1, .int .u64 (word S 0), .int .u64 (word S 1), .int .u64 (word S 2), .int .u64 (word S 3), .int .i64 0, .int .i64 0, .int .i64 0, .slice none 0 0] : List Value), u.oneCell' = true := by
                  simp only [List.forall_mem_cons]
                  exact ⟨rfl, rfl, rfl, rfl, rfl, rfl, rfl, rfl, rfl, fun p hp => by cases hp⟩
                have Hrowc := Lib.hid hrowc
                clear hrowc
                have Hq := Lib.hid hq2000
                clear hq2000
                go_wp2_with (first
                  | (refine wpList_load_node rfl _ rfl _ 0 _ rfl hA3 ?_; clear hA3)
                  | (refine wpList_append_node rfl _ _ rfl (W11.heap.size + 1) v q _ rfl (hown.out.alloc _) wr.heap.size _ rfl (node9_in (World.alloc_heap_new wr _) rfl) Hrowc.out (by have := Hq.out; omega) (by have := hbel2.out.2; simp; omega) ?_
                     intro v' w4 hown4 hgr4
                     obtain ⟨g', cap', rfl⟩ := ownsRow_succ hown4
                     have hlt2 := hbel2.out.2
                     have hne4 : some W11.heap.size ≠ v.ownBlock := fun e => by have := hown.out.lt W11.heap.size e.symm; omega
                     have hn4 : NodeIn w4 W11.heap.size _ := (hgr4.block W11.heap.size (by simp; omega) hne4).trans ((Below.heap_alloc wr _ W11.heap.size hlt2).trans hnode2.out)
                     have hc4 := node_cell8 hn4
                     have hf4 := node_frozen hn4 8
                     have Hn4 := Lib.hid hn4
                     have Hown4 := Lib.hid hown4
                     have Hgr4 := Lib.hid hgr4
                     have Hne4 := Lib.hid hne4
                     clear hn4 hown4 hgr4 hv hlt2 hne4)
                  | fail)
                go_roundw
                case rel =>
                  have hlt2 := hbel2.out.2
                  have hs4 := Hgr4.out.size
                  rw [World.size_alloc] at hs4
                  refine ⟨q + 1, _, by go_num, by have := Hq.out; omega, node_setField Hn4.out _, ?_, ?_, by simp; omega⟩
                  · show World.ownsRow _ _ _ _ _ _ _
                    rw [rep_cells, HcA2.out]
                    have h := ownsRow_setCell_below Hown4.out (a := ⟨W11.heap.size, 8, none⟩) (Nat.lt_succ_self _) (.slice (some ⟨g', 0, none⟩) (q + 1) cap')
                    rw [HcA2.out] at h
                    exact h
                  · have hb4 : Below W11.heap.size W11 w4 := hbel2.out.1.trans ⟨Hgr4.out.os, Hgr4.out.tape, Hgr4.out.output, by omega, fun k hk => (Hgr4.out.block k (by simp; omega) (fun e => by have := hown.out.lt k e.symm; omega)).trans (Below.heap_alloc wr _ k (by omega))⟩
                    exact hb4.setCell (Nat.le_refl _) _
                case measure => simp [intOf]; have := Hq.out; omega
              · obtain rfl : q = 2000 := by omega
                have hdj2 : decide ((2000 : Int) < 2000) = false := by simp
                have hbb := box_big (S := S) (cA := cA2) (by rw [HcA2.out]; exact (BA.out wr hbel2.out.1).2) hown.out hnode2.out
                obtain ⟨gB, capB, BB⟩ := hbb
                have BB := Lib.hid BB
                have BA := Lib.hid (BA.out.later hbel2.out.1)
                have BO := Lib.hid (BO.out.later hbel2.out.1)
                have BP := Lib.hid (BP.out.later hbel2.out.1)
                have BG := Lib.hid (BG.out.later hbel2.out.1)
                have BH := Lib.hid (BH.out.later hbel2.out.1)
                have BD := Lib.hid (BD.out.later hbel2.out.1)
                have BM := Lib.hid (BM.out.later hbel2.out.1)
                obtain ⟨ko, so, loo, hio, no, ao, leno, capo, hco⟩ := BO.out.cells
                subst hco
                obtain ⟨kp, sp, lop, hip, np, ap, lenp, capp, hcp⟩ := BP.out.cells
                subst hcp
                have hc8 := Hc8.out
                generalize (Nd.mk 5 0 0 0 1 [nA S]).kind = k8 at hc8
                generalize (Nd.mk 5 0 0 0 1 [nA S]).nodes.length = len8 at hc8
                clear Hc8
                subst hc8
                have hc9 := Hc9.out
                clear Hc9
                subst hc9
                have HwW := Lib.hid (HwW.out.trans (hbel2.out.1.mono HwW.out.size))
                clear hnode2 hown hbel2 HcA2 Hn12 HS9 hbel H9A HatA H9O HatO H9P HatP Hbad Hrow
                have hne := Later.nonempty wr
                have hlA : ∀ w', (∃ Z : Later wr, w' = Z.val) → Node9 w' _ 0 _ := fun w' hw' => by obtain ⟨Z, rfl⟩ := hw'; exact (BA.out _ Z.ok).1
                have hlO : ∀ w', (∃ Z : Later wr, w' = Z.val) → Node9 w' _ 0 _ := fun w' hw' => by obtain ⟨Z, rfl⟩ := hw'; exact (BO.out _ Z.ok).1
                have hlP : ∀ w', (∃ Z : Later wr, w' = Z.val) → Node9 w' _ 0 _ := fun w' hw' => by obtain ⟨Z, rfl⟩ := hw'; exact (BP.out _ Z.ok).1
                have hlG : ∀ w', (∃ Z : Later wr, w' = Z.val) → Node9 w' _ 0 _ := fun w' hw' => by obtain ⟨Z, rfl⟩ := hw'; exact (BG.out _ Z.ok).1
                have hlH : ∀ w', (∃ Z : Later wr, w' = Z.val) → Node9 w' _ 0 _ := fun w' hw' => by obtain ⟨Z, rfl⟩ := hw'; exact (BH.out _ Z.ok).1
                have hlD : ∀ w', (∃ Z : Later wr, w' = Z.val) → Node9 w' _ 0 _ := fun w' hw' => by obtain ⟨Z, rfl⟩ := hw'; exact (BD.out _ Z.ok).1
                have hlM : ∀ w', (∃ Z : Later wr, w' = Z.val) → Node9 w' _ 0 _ := fun w' hw' => by obtain ⟨Z, rfl⟩ := hw'; exact (BM.out _ Z.ok).1
                have hlB : ∀ w', (∃ Z : Later wr, w' = Z.val) → Node9 w' _ 0 _ := fun w' hw' => by obtain ⟨Z, rfl⟩ := hw'; exact (BB.out _ Z.ok).1
                go_upto_region 26 with fail
                refine wp_region_eager knownPlan5 (W0 := wr) (Below.refl _ _) (by kernel_rfl) ?fit (fun c a d v w h => by cases d <;> exact h) ?_
                case fit =>
                  as_aux_lemma =>
                    refine eagerB_of (n := 96) (by kernel_rfl) (by kernel_rfl) ?_
                    unfold knownPlan5
                    simp only [List.replicate]
                    repeat (first
                      | exact fits_done (by as_aux_lemma => kernel_rfl)
                      | (refine fits_plain (by as_aux_lemma => kernel_rfl) ?_; simp only [List.setIfInBounds_toArray, List.set_cons_zero, List.set_cons_succ])
                      | (refine fits_sole (by as_aux_lemma => kernel_rfl) ?_; simp only [List.setIfInBounds_toArray, List.set_cons_zero, List.set_cons_succ]))
                unfold knownPlan5
                have hcur := (Below.refl wr.heap.size wr).drew
                repeat (first
                    | (refine' eager_skip ?_ ?_ ?_
                       rotate_left 1
                       · first | (simp only [List.getElem?_toArray]; exact rfl) | (simp only [List.getElem?_toArray, List.getElem?_cons_zero, List.getElem?_cons_succ]; exact rfl)
                       · exact rfl
                       simp only [Act.put, List.setIfInBounds_toArray, List.set_cons_zero, List.set_cons_succ])
                    | (refine' eager_want ?_ ?_ (fun K hK => ?_)
                       rotate_left 1
                       · first | (simp only [List.getElem?_toArray]; exact rfl) | (simp only [List.getElem?_toArray, List.getElem?_cons_zero, List.getElem?_cons_succ]; exact rfl)
                       · exact rfl
                       first
                       | (refine quiet_load_node _ rfl _ 0 _ rfl hlA ?_; refine hK _ ?_; clear hK K; try simp only [Act.put, List.setIfInBounds_toArray, List.set_cons_zero, List.set_cons_succ])
                       | (refine quiet_load_node _ rfl _ 0 _ rfl hlO ?_; refine hK _ ?_; clear hK K; try simp only [Act.put, List.setIfInBounds_toArray, List.set_cons_zero, List.set_cons_succ])
                       | (refine quiet_load_node _ rfl _ 0 _ rfl hlP ?_; refine hK _ ?_; clear hK K; try simp only [Act.put, List.setIfInBounds_toArray, List.set_cons_zero, List.set_cons_succ])
                       | (refine quiet_load_node _ rfl _ 0 _ rfl hlG ?_; refine hK _ ?_; clear hK K; try simp only [Act.put, List.setIfInBounds_toArray, List.set_cons_zero, List.set_cons_succ])
                       | (refine quiet_load_node _ rfl _ 0 _ rfl hlH ?_; refine hK _ ?_; clear hK K; try simp only [Act.put, List.setIfInBounds_toArray, List.set_cons_zero, List.set_cons_succ])
                       | (refine quiet_load_node _ rfl _ 0 _ rfl hlD ?_; refine hK _ ?_; clear hK K; try simp only [Act.put, List.setIfInBounds_toArray, List.set_cons_zero, List.set_cons_succ])
                       | (refine quiet_load_node _ rfl _ 0 _ rfl hlM ?_; refine hK _ ?_; clear hK K; try simp only [Act.put, List.setIfInBounds_toArray, List.set_cons_zero, List.set_cons_succ])
                       | (refine quiet_load_node _ rfl _ 0 _ rfl hlB ?_; refine hK _ ?_; clear hK K; try simp only [Act.put, List.setIfInBounds_toArray, List.set_cons_zero, List.set_cons_succ])
                       | (go_big_quiet_op; refine hK _ ?_; clear hK K)))
                refine' eager_call ?_ ?_ (fun K hK => ?_)
                rotate_left 1
                · first | (simp only [List.getElem?_toArray]; exact rfl) | (simp only [List.getElem?_toArray, List.getElem?_cons_zero, List.getElem?_cons_succ]; exact rfl)
                · exact rfl
                go_simp
                refine (good_walk false false 0 (BO.out _ hcur).2).mono ?_
                rintro e wn ⟨he, hb⟩
                obtain rfl : e = .returned (.bool true) := he.trans (congrArg (fun b : Bool => Ending.returned (.bool b)) HK.out.k1)
                refine hK _ _ hb ?_
                replace hcur := hcur.trans (hb.mono hcur.size)
                clear hb hK K
                try simp only [Act.put, List.setIfInBounds_toArray, List.set_cons_zero, List.set_cons_succ]
                repeat (first
                    | (refine' eager_skip ?_ ?_ ?_
                       rotate_left 1
                       · first | (simp only [List.getElem?_toArray]; exact rfl) | (simp only [List.getElem?_toArray, List.getElem?_cons_zero, List.getElem?_cons_succ]; exact rfl)
                       · exact rfl
                       simp only [Act.put, List.setIfInBounds_toArray, List.set_cons_zero, List.set_cons_succ])
                    | (refine' eager_want ?_ ?_ (fun K hK => ?_)
                       rotate_left 1
                       · first | (simp only [List.getElem?_toArray]; exact rfl) | (simp only [List.getElem?_toArray, List.getElem?_cons_zero, List.getElem?_cons_succ]; exact rfl)
                       · exact rfl
                       first
                       | (refine quiet_load_node _ rfl _ 0 _ rfl hlA ?_; refine hK _ ?_; clear hK K; try simp only [Act.put, List.setIfInBounds_toArray, List.set_cons_zero, List.set_cons_succ])
                       | (refine quiet_load_node _ rfl _ 0 _ rfl hlO ?_; refine hK _ ?_; clear hK K; try simp only [Act.put, List.setIfInBounds_toArray, List.set_cons_zero, List.set_cons_succ])
                       | (refine quiet_load_node _ rfl _ 0 _ rfl hlP ?_; refine hK _ ?_; clear hK K; try simp only [Act.put, List.setIfInBounds_toArray, List.set_cons_zero, List.set_cons_succ])
                       | (refine quiet_load_node _ rfl _ 0 _ rfl hlG ?_; refine hK _ ?_; clear hK K; try simp only [Act.put, List.setIfInBounds_toArray, List.set_cons_zero, List.set_cons_succ])
                       | (refine quiet_load_node _ rfl _ 0 _ rfl hlH ?_; refine hK _ ?_; clear hK K; try simp only [Act.put, List.setIfInBounds_toArray, List.set_cons_zero, List.set_cons_succ])
                       | (refine quiet_load_node _ rfl _ 0 _ rfl hlD ?_; refine hK _ ?_; clear hK K; try simp only [Act.put, List.setIfInBounds_toArray, List.set_cons_zero, List.set_cons_succ])
                       | (refine quiet_load_node _ rfl _ 0 _ rfl hlM ?_; refine hK _ ?_; clear hK K; try simp only [Act.put, List.setIfInBounds_toArray, List.set_cons_zero, List.set_cons_succ])
                       | (refine quiet_load_node _ rfl _ 0 _ rfl hlB ?_; refine hK _ ?_; clear hK K; try simp only [Act.put, List.setIfInBounds_toArray, List.set_cons_zero, List.set_cons_succ])
                       | (go_big_quiet_op; refine hK _ ?_; clear hK K)))
                refine' eager_call ?_ ?_ (fun K hK => ?_)
                rotate_left 1
                · first | (simp only [List.getElem?_toArray]; exact rfl) | (simp only [List.getElem?_toArray, List.getElem?_cons_zero, List.getElem?_cons_succ]; exact rfl)
                · exact rfl
                go_simp
                refine (good_walk false false 0 (BP.out _ hcur).2).mono ?_
                rintro e wn ⟨he, hb⟩
                obtain rfl : e = .returned (.bool true) := he.trans (congrArg (fun b : Bool => Ending.returned (.bool b)) HK.out.k2)
                refine hK _ _ hb ?_
                replace hcur := hcur.trans (hb.mono hcur.size)
                clear hb hK K
                try simp only [Act.put, List.setIfInBounds_toArray, List.set_cons_zero, List.set_cons_succ]
                repeat (first
                    | (refine' eager_skip ?_ ?_ ?_
                       rotate_left 1
                       · first | (simp only [List.getElem?_toArray]; exact rfl) | (simp only [List.getElem?_toArray, List.getElem?_cons_zero, List.getElem?_cons_succ]; exact rfl)
                       · exact rfl
                       simp only [Act.put, List.setIfInBounds_toArray, List.set_cons_zero, List.set_cons_succ])
                    | (refine' eager_want ?_ ?_ (fun K hK => ?_)
                       rotate_left 1
                       · first | (simp only [List.getElem?_toArray]; exact rfl) | (simp only [List.getElem?_toArray, List.getElem?_cons_zero, List.getElem?_cons_succ]; exact rfl)
                       · exact rfl
                       first
                       | (refine quiet_load_node _ rfl _ 0 _ rfl hlA ?_; refine hK _ ?_; clear hK K; try simp only [Act.put, List.setIfInBounds_toArray, List.set_cons_zero, List.set_cons_succ])
                       | (refine quiet_load_node _ rfl _ 0 _ rfl hlO ?_; refine hK _ ?_; clear hK K; try simp only [Act.put, List.setIfInBounds_toArray, List.set_cons_zero, List.set_cons_succ])
                       | (refine quiet_load_node _ rfl _ 0 _ rfl hlP ?_; refine hK _ ?_; clear hK K; try simp only [Act.put, List.setIfInBounds_toArray, List.set_cons_zero, List.set_cons_succ])
                       | (refine quiet_load_node _ rfl _ 0 _ rfl hlG ?_; refine hK _ ?_; clear hK K; try simp only [Act.put, List.setIfInBounds_toArray, List.set_cons_zero, List.set_cons_succ])
                       | (refine quiet_load_node _ rfl _ 0 _ rfl hlH ?_; refine hK _ ?_; clear hK K; try simp only [Act.put, List.setIfInBounds_toArray, List.set_cons_zero, List.set_cons_succ])
                       | (refine quiet_load_node _ rfl _ 0 _ rfl hlD ?_; refine hK _ ?_; clear hK K; try simp only [Act.put, List.setIfInBounds_toArray, List.set_cons_zero, List.set_cons_succ])
                       | (refine quiet_load_node _ rfl _ 0 _ rfl hlM ?_; refine hK _ ?_; clear hK K; try simp only [Act.put, List.setIfInBounds_toArray, List.set_cons_zero, List.set_cons_succ])
                       | (refine quiet_load_node _ rfl _ 0 _ rfl hlB ?_; refine hK _ ?_; clear hK K; try simp only [Act.put, List.setIfInBounds_toArray, List.set_cons_zero, List.set_cons_succ])
                       | (go_big_quiet_op; refine hK _ ?_; clear hK K)))
                refine' eager_call ?_ ?_ (fun K hK => ?_)
                rotate_left 1
                · first | (simp only [List.getElem?_toArray]; exact rfl) | (simp only [List.getElem?_toArray, List.getElem?_cons_zero, List.getElem?_cons_succ]; exact rfl)
                · exact rfl
                go_simp
                refine (good_walk false false 1 (BG.out _ hcur).2).mono ?_
                rintro e wn ⟨he, hb⟩
                obtain rfl : e = .returned (.bool true) := he.trans (congrArg (fun b : Bool => Ending.returned (.bool b)) HK.out.k3)
                refine hK _ _ hb ?_
                replace hcur := hcur.trans (hb.mono hcur.size)
                clear hb hK K
                try simp only [Act.put, List.setIfInBounds_toArray, List.set_cons_zero, List.set_cons_succ]
                repeat (first
                    | (refine' eager_skip ?_ ?_ ?_
                       rotate_left 1
                       · first | (simp only [List.getElem?_toArray]; exact rfl) | (simp only [List.getElem?_toArray, List.getElem?_cons_zero, List.getElem?_cons_succ]; exact rfl)
                       · exact rfl
                       simp only [Act.put, List.setIfInBounds_toArray, List.set_cons_zero, List.set_cons_succ])
                    | (refine' eager_want ?_ ?_ (fun K hK => ?_)
                       rotate_left 1
                       · first | (simp only [List.getElem?_toArray]; exact rfl) | (simp only [List.getElem?_toArray, List.getElem?_cons_zero, List.getElem?_cons_succ]; exact rfl)
                       · exact rfl
                       first
                       | (refine quiet_load_node _ rfl _ 0 _ rfl hlA ?_; refine hK _ ?_; clear hK K; try simp only [Act.put, List.setIfInBounds_toArray, List.set_cons_zero, List.set_cons_succ])
                       | (refine quiet_load_node _ rfl _ 0 _ rfl hlO ?_; refine hK _ ?_; clear hK K; try simp only [Act.put, List.setIfInBounds_toArray, List.set_cons_zero, List.set_cons_succ])
                       | (refine quiet_load_node _ rfl _ 0 _ rfl hlP ?_; refine hK _ ?_; clear hK K; try simp only [Act.put, List.setIfInBounds_toArray, List.set_cons_zero, List.set_cons_succ])
                       | (refine quiet_load_node _ rfl _ 0 _ rfl hlG ?_; refine hK _ ?_; clear hK K; try simp only [Act.put, List.setIfInBounds_toArray, List.set_cons_zero, List.set_cons_succ])
                       | (refine quiet_load_node _ rfl _ 0 _ rfl hlH ?_; refine hK _ ?_; clear hK K; try simp only [Act.put, List.setIfInBounds_toArray, List.set_cons_zero, List.set_cons_succ])
                       | (refine quiet_load_node _ rfl _ 0 _ rfl hlD ?_; refine hK _ ?_; clear hK K; try simp only [Act.put, List.setIfInBounds_toArray, List.set_cons_zero, List.set_cons_succ])
                       | (refine quiet_load_node _ rfl _ 0 _ rfl hlM ?_; refine hK _ ?_; clear hK K; try simp only [Act.put, List.setIfInBounds_toArray, List.set_cons_zero, List.set_cons_succ])
                       | (refine quiet_load_node _ rfl _ 0 _ rfl hlB ?_; refine hK _ ?_; clear hK K; try simp only [Act.put, List.setIfInBounds_toArray, List.set_cons_zero, List.set_cons_succ])
                       | (go_big_quiet_op; refine hK _ ?_; clear hK K)))
                refine' eager_call ?_ ?_ (fun K hK => ?_)
                rotate_left 1
                · first | (simp only [List.getElem?_toArray]; exact rfl) | (simp only [List.getElem?_toArray, List.getElem?_cons_zero, List.getElem?_cons_succ]; exact rfl)
                · exact rfl
                go_simp
                refine (good_walk false false 0 (BG.out _ hcur).2).mono ?_
                rintro e wn ⟨he, hb⟩
                obtain rfl : e = .returned (.bool false) := he.trans (congrArg (fun b : Bool => Ending.returned (.bool b)) HK.out.k4)
                refine hK _ _ hb ?_
                replace hcur := hcur.trans (hb.mono hcur.size)
                clear hb hK K
                try simp only [Act.put, List.setIfInBounds_toArray, List.set_cons_zero, List.set_cons_succ]
                repeat (first
                    | (refine' eager_skip ?_ ?_ ?_
                       rotate_left 1
                       · first | (simp only [List.getElem?_toArray]; exact rfl) | (simp only [List.getElem?_toArray, List.getElem?_cons_zero, List.getElem?_cons_succ]; exact rfl)
                       · exact rfl
                       simp only [Act.put, List.setIfInBounds_toArray, List.set_cons_zero, List.set_cons_succ])
                    | (refine' eager_want ?_ ?_ (fun K hK => ?_)
                       rotate_left 1
                       · first | (simp only [List.getElem?_toArray]; exact rfl) | (simp only [List.getElem?_toArray, List.getElem?_cons_zero, List.getElem?_cons_succ]; exact rfl)
                       · exact rfl
                       first
                       | (refine quiet_load_node _ rfl _ 0 _ rfl hlA ?_; refine hK _ ?_; clear hK K; try simp only [Act.put, List.setIfInBounds_toArray, List.set_cons_zero, List.set_cons_succ])
                       | (refine quiet_load_node _ rfl _ 0 _ rfl hlO ?_; refine hK _ ?_; clear hK K; try simp only [Act.put, List.setIfInBounds_toArray, List.set_cons_zero, List.set_cons_succ])
                       | (refine quiet_load_node _ rfl _ 0 _ rfl hlP ?_; refine hK _ ?_; clear hK K; try simp only [Act.put, List.setIfInBounds_toArray, List.set_cons_zero, List.set_cons_succ])
                       | (refine quiet_load_node _ rfl _ 0 _ rfl hlG ?_; refine hK _ ?_; clear hK K; try simp only [Act.put, List.setIfInBounds_toArray, List.set_cons_zero, List.set_cons_succ])
                       | (refine quiet_load_node _ rfl _ 0 _ rfl hlH ?_; refine hK _ ?_; clear hK K; try simp only [Act.put, List.setIfInBounds_toArray, List.set_cons_zero, List.set_cons_succ])
                       | (refine quiet_load_node _ rfl _ 0 _ rfl hlD ?_; refine hK _ ?_; clear hK K; try simp only [Act.put, List.setIfInBounds_toArray, List.set_cons_zero, List.set_cons_succ])
                       | (refine quiet_load_node _ rfl _ 0 _ rfl hlM ?_; refine hK _ ?_; clear hK K; try simp only [Act.put, List.setIfInBounds_toArray, List.set_cons_zero, List.set_cons_succ])
                       | (refine quiet_load_node _ rfl _ 0 _ rfl hlB ?_; refine hK _ ?_; clear hK K; try simp only [Act.put, List.setIfInBounds_toArray, List.set_cons_zero, List.set_cons_succ])
                       | (go_big_quiet_op; refine hK _ ?_; clear hK K)))
                refine' eager_call ?_ ?_ (fun K hK => ?_)
                rotate_left 1
                · first | (simp only [List.getElem?_toArray]; exact rfl) | (simp only [List.getElem?_toArray, List.getElem?_cons_zero, List.getElem?_cons_succ]; exact rfl)
                · exact rfl
                go_simp
                refine (good_walk false false 1 (BH.out _ hcur).2).mono ?_
                rintro e wn ⟨he, hb⟩
                obtain rfl : e = .returned (.bool false) := he.trans (congrArg (fun b : Bool => Ending.returned (.bool b)) HK.out.k5)
                refine hK _ _ hb ?_
                replace hcur := hcur.trans (hb.mono hcur.size)
                clear hb hK K
                try simp only [Act.put, List.setIfInBounds_toArray, List.set_cons_zero, List.set_cons_succ]
                repeat (first
                    | (refine' eager_skip ?_ ?_ ?_
                       rotate_left 1
                       · first | (simp only [List.getElem?_toArray]; exact rfl) | (simp only [List.getElem?_toArray, List.getElem?_cons_zero, List.getElem?_cons_succ]; exact rfl)
                       · exact rfl
                       simp only [Act.put, List.setIfInBounds_toArray, List.set_cons_zero, List.set_cons_succ])
                    | (refine' eager_want ?_ ?_ (fun K hK => ?_)
                       rotate_left 1
                       · first | (simp only [List.getElem?_toArray]; exact rfl) | (simp only [List.getElem?_toArray, List.getElem?_cons_zero, List.getElem?_cons_succ]; exact rfl)
                       · exact rfl
                       first
                       | (refine quiet_load_node _ rfl _ 0 _ rfl hlA ?_; refine hK _ ?_; clear hK K; try simp only [Act.put, List.setIfInBounds_toArray, List.set_cons_zero, List.set_cons_succ])
                       | (refine quiet_load_node _ rfl _ 0 _ rfl hlO ?_; refine hK _ ?_; clear hK K; try simp only [Act.put, List.setIfInBounds_toArray, List.set_cons_zero, List.set_cons_succ])
                       | (refine quiet_load_node _ rfl _ 0 _ rfl hlP ?_; refine hK _ ?_; clear hK K; try simp only [Act.put, List.setIfInBounds_toArray, List.set_cons_zero, List.set_cons_succ])
                       | (refine quiet_load_node _ rfl _ 0 _ rfl hlG ?_; refine hK _ ?_; clear hK K; try simp only [Act.put, List.setIfInBounds_toArray, List.set_cons_zero, List.set_cons_succ])
                       | (refine quiet_load_node _ rfl _ 0 _ rfl hlH ?_; refine hK _ ?_; clear hK K; try simp only [Act.put, List.setIfInBounds_toArray, List.set_cons_zero, List.set_cons_succ])
                       | (refine quiet_load_node _ rfl _ 0 _ rfl hlD ?_; refine hK _ ?_; clear hK K; try simp only [Act.put, List.setIfInBounds_toArray, List.set_cons_zero, List.set_cons_succ])
                       | (refine quiet_load_node _ rfl _ 0 _ rfl hlM ?_; refine hK _ ?_; clear hK K; try simp only [Act.put, List.setIfInBounds_toArray, List.set_cons_zero, List.set_cons_succ])
                       | (refine quiet_load_node _ rfl _ 0 _ rfl hlB ?_; refine hK _ ?_; clear hK K; try simp only [Act.put, List.setIfInBounds_toArray, List.set_cons_zero, List.set_cons_succ])
                       | (go_big_quiet_op; refine hK _ ?_; clear hK K)))
                refine' eager_call ?_ ?_ (fun K hK => ?_)
                rotate_left 1
                · first | (simp only [List.getElem?_toArray]; exact rfl) | (simp only [List.getElem?_toArray, List.getElem?_cons_zero, List.getElem?_cons_succ]; exact rfl)
                · exact rfl
                go_simp
                refine (group_any (BH.out _ hcur).2 1 (by rfl)).mono ?_
                rintro e wn ⟨cK1, he, hK1, hb⟩
                obtain ⟨kK1, sK1, loK1, hiK1, nK1, aK1, lenK1, capK1, hcK1⟩ := BoxN.cells' hK1
                subst hcK1
                subst he
                have HK1 := Lib.hid hK1
                clear hK1
                refine hK _ _ hb ?_
                replace hcur := hcur.trans (hb.mono hcur.size)
                clear hb hK K
                try simp only [Act.put, List.setIfInBounds_toArray, List.set_cons_zero, List.set_cons_succ]
                refine' eager_call ?_ ?_ (fun K hK => ?_)
                rotate_left 1
                · first | (simp only [List.getElem?_toArray]; exact rfl) | (simp only [List.getElem?_toArray, List.getElem?_cons_zero, List.getElem?_cons_succ]; exact rfl)
                · exact rfl
                go_simp
                refine (group_any (BA.out _ hcur).2 3 (by rfl)).mono ?_
                rintro e wn ⟨cK3, he, hK3, hb⟩
                obtain ⟨kK3, sK3, loK3, hiK3, nK3, aK3, lenK3, capK3, hcK3⟩ := BoxN.cells' hK3
                subst hcK3
                subst he
                have HK3 := Lib.hid hK3
                clear hK3
                refine hK _ _ hb ?_
                replace hcur := hcur.trans (hb.mono hcur.size)
                have HK1 := Lib.hid (Nd.at_below hb (Nat.le_refl _) _ _ HK1.out)
                clear hb hK K
                try simp only [Act.put, List.setIfInBounds_toArray, List.set_cons_zero, List.set_cons_succ]
                refine' eager_call ?_ ?_ (fun K hK => ?_)
                rotate_left 1
                · first | (simp only [List.getElem?_toArray]; exact rfl) | (simp only [List.getElem?_toArray, List.getElem?_cons_zero, List.getElem?_cons_succ]; exact rfl)
                · exact rfl
                go_simp
                refine hK _ _ ((Below.refl _ _).alloc (Nat.le_refl _) _) ?_
                clear hK K
                try simp only [Act.put, List.setIfInBounds_toArray, List.set_cons_zero, List.set_cons_succ]
                repeat (first
                    | (refine' eager_skip ?_ ?_ ?_
                       rotate_left 1
                       · first | (simp only [List.getElem?_toArray]; exact rfl) | (simp only [List.getElem?_toArray, List.getElem?_cons_zero, List.getElem?_cons_succ]; exact rfl)
                       · exact rfl
                       simp only [Act.put, List.setIfInBounds_toArray, List.set_cons_zero, List.set_cons_succ])
                    | (refine' eager_want ?_ ?_ (fun K hK => ?_)
                       rotate_left 1
                       · first | (simp only [List.getElem?_toArray]; exact rfl) | (simp only [List.getElem?_toArray, List.getElem?_cons_zero, List.getElem?_cons_succ]; exact rfl)
                       · exact rfl
                       first
                       | (refine quiet_load_node _ rfl _ 0 _ rfl hlA ?_; refine hK _ ?_; clear hK K; try simp only [Act.put, List.setIfInBounds_toArray, List.set_cons_zero, List.set_cons_succ])
                       | (refine quiet_load_node _ rfl _ 0 _ rfl hlO ?_; refine hK _ ?_; clear hK K; try simp only [Act.put, List.setIfInBounds_toArray, List.set_cons_zero, List.set_cons_succ])
                       | (refine quiet_load_node _ rfl _ 0 _ rfl hlP ?_; refine hK _ ?_; clear hK K; try simp only [Act.put, List.setIfInBounds_toArray, List.set_cons_zero, List.set_cons_succ])
                       | (refine quiet_load_node _ rfl _ 0 _ rfl hlG ?_; refine hK _ ?_; clear hK K; try simp only [Act.put, List.setIfInBounds_toArray, List.set_cons_zero, List.set_cons_succ])
                       | (refine quiet_load_node _ rfl _ 0 _ rfl hlH ?_; refine hK _ ?_; clear hK K; try simp only [Act.put, List.setIfInBounds_toArray, List.set_cons_zero, List.set_cons_succ])
                       | (refine quiet_load_node _ rfl _ 0 _ rfl hlD ?_; refine hK _ ?_; clear hK K; try simp only [Act.put, List.setIfInBounds_toArray, List.set_cons_zero, List.set_cons_succ])
                       | (refine quiet_load_node _ rfl _ 0 _ rfl hlM ?_; refine hK _ ?_; clear hK K; try simp only [Act.put, List.setIfInBounds_toArray, List.set_cons_zero, List.set_cons_succ])
                       | (refine quiet_load_node _ rfl _ 0 _ rfl hlB ?_; refine hK _ ?_; clear hK K; try simp only [Act.put, List.setIfInBounds_toArray, List.set_cons_zero, List.set_cons_succ])
                       | (go_big_quiet_op; refine hK _ ?_; clear hK K)))
                refine' eager_call ?_ ?_ (fun K hK => ?_)
                rotate_left 1
                · first | (simp only [List.getElem?_toArray]; exact rfl) | (simp only [List.getElem?_toArray, List.getElem?_cons_zero, List.getElem?_cons_succ]; exact rfl)
                · exact rfl
                go_simp
                refine (good_walk false false 3 (at_pair HK1.out HK3.out)).mono ?_
                rintro e wn ⟨he, hb⟩
                obtain rfl : e = .returned (.bool true) := he.trans (congrArg (fun b : Bool => Ending.returned (.bool b)) HK.out.k6)
                refine hK _ _ hb ?_
                replace hcur := (hcur.alloc hcur.size _).trans (hb.mono (by have := hcur.size; simp; omega))
                clear hb hK K
                try simp only [Act.put, List.setIfInBounds_toArray, List.set_cons_zero, List.set_cons_succ]
                repeat (first
                    | (refine' eager_skip ?_ ?_ ?_
                       rotate_left 1
                       · first | (simp only [List.getElem?_toArray]; exact rfl) | (simp only [List.getElem?_toArray, List.getElem?_cons_zero, List.getElem?_cons_succ]; exact rfl)
                       · exact rfl
                       simp only [Act.put, List.setIfInBounds_toArray, List.set_cons_zero, List.set_cons_succ])
                    | (refine' eager_want ?_ ?_ (fun K hK => ?_)
                       rotate_left 1
                       · first | (simp only [List.getElem?_toArray]; exact rfl) | (simp only [List.getElem?_toArray, List.getElem?_cons_zero, List.getElem?_cons_succ]; exact rfl)
                       · exact rfl
                       first
                       | (refine quiet_load_node _ rfl _ 0 _ rfl hlA ?_; refine hK _ ?_; clear hK K; try simp only [Act.put, List.setIfInBounds_toArray, List.set_cons_zero, List.set_cons_succ])
                       | (refine quiet_load_node _ rfl _ 0 _ rfl hlO ?_; refine hK _ ?_; clear hK K; try simp only [Act.put, List.setIfInBounds_toArray, List.set_cons_zero, List.set_cons_succ])
                       | (refine quiet_load_node _ rfl _ 0 _ rfl hlP ?_; refine hK _ ?_; clear hK K; try simp only [Act.put, List.setIfInBounds_toArray, List.set_cons_zero, List.set_cons_succ])
                       | (refine quiet_load_node _ rfl _ 0 _ rfl hlG ?_; refine hK _ ?_; clear hK K; try simp only [Act.put, List.setIfInBounds_toArray, List.set_cons_zero, List.set_cons_succ])
                       | (refine quiet_load_node _ rfl _ 0 _ rfl hlH ?_; refine hK _ ?_; clear hK K; try simp only [Act.put, List.setIfInBounds_toArray, List.set_cons_zero, List.set_cons_succ])
                       | (refine quiet_load_node _ rfl _ 0 _ rfl hlD ?_; refine hK _ ?_; clear hK K; try simp only [Act.put, List.setIfInBounds_toArray, List.set_cons_zero, List.set_cons_succ])
                       | (refine quiet_load_node _ rfl _ 0 _ rfl hlM ?_; refine hK _ ?_; clear hK K; try simp only [Act.put, List.setIfInBounds_toArray, List.set_cons_zero, List.set_cons_succ])
                       | (refine quiet_load_node _ rfl _ 0 _ rfl hlB ?_; refine hK _ ?_; clear hK K; try simp only [Act.put, List.setIfInBounds_toArray, List.set_cons_zero, List.set_cons_succ])
                       | (go_big_quiet_op; refine hK _ ?_; clear hK K)))
                refine' eager_call ?_ ?_ (fun K hK => ?_)
                rotate_left 1
                · first | (simp only [List.getElem?_toArray]; exact rfl) | (simp only [List.getElem?_toArray, List.getElem?_cons_zero, List.getElem?_cons_succ]; exact rfl)
                · exact rfl
                go_simp
                refine (group_any (BA.out _ hcur).2 1 (by rfl)).mono ?_
                rintro e wn ⟨cJ1, he, hJ1, hb⟩
                obtain ⟨kJ1, sJ1, loJ1, hiJ1, nJ1, aJ1, lenJ1, capJ1, hcJ1⟩ := BoxN.cells' hJ1
                subst hcJ1
                subst he
                have HJ1 := Lib.hid hJ1
                clear hJ1
                refine hK _ _ hb ?_
                replace hcur := hcur.trans (hb.mono hcur.size)
                clear hb hK K
                try simp only [Act.put, List.setIfInBounds_toArray, List.set_cons_zero, List.set_cons_succ]
                refine' eager_call ?_ ?_ (fun K hK => ?_)
                rotate_left 1
                · first | (simp only [List.getElem?_toArray]; exact rfl) | (simp only [List.getElem?_toArray, List.getElem?_cons_zero, List.getElem?_cons_succ]; exact rfl)
                · exact rfl
                go_simp
                refine (group_any HJ1.out 2 (by rfl)).mono ?_
                rintro e wn ⟨cJ2, he, hJ2, hb⟩
                obtain ⟨kJ2, sJ2, loJ2, hiJ2, nJ2, aJ2, lenJ2, capJ2, hcJ2⟩ := BoxN.cells' hJ2
                subst hcJ2
                subst he
                have HJ2 := Lib.hid hJ2
                clear hJ2
                refine hK _ _ hb ?_
                replace hcur := hcur.trans (hb.mono hcur.size)
                clear hb hK K
                try simp only [Act.put, List.setIfInBounds_toArray, List.set_cons_zero, List.set_cons_succ]
                refine' eager_call ?_ ?_ (fun K hK => ?_)
                rotate_left 1
                · first | (simp only [List.getElem?_toArray]; exact rfl) | (simp only [List.getElem?_toArray, List.getElem?_cons_zero, List.getElem?_cons_succ]; exact rfl)
                · exact rfl
                go_simp
                refine hK _ _ ((Below.refl _ _).alloc (Nat.le_refl _) _) ?_
                clear hK K
                try simp only [Act.put, List.setIfInBounds_toArray, List.set_cons_zero, List.set_cons_succ]
                repeat (first
                    | (refine' eager_skip ?_ ?_ ?_
                       rotate_left 1
                       · first | (simp only [List.getElem?_toArray]; exact rfl) | (simp only [List.getElem?_toArray, List.getElem?_cons_zero, List.getElem?_cons_succ]; exact rfl)
                       · exact rfl
                       simp only [Act.put, List.setIfInBounds_toArray, List.set_cons_zero, List.set_cons_succ])
                    | (refine' eager_want ?_ ?_ (fun K hK => ?_)
                       rotate_left 1
                       · first | (simp only [List.getElem?_toArray]; exact rfl) | (simp only [List.getElem?_toArray, List.getElem?_cons_zero, List.getElem?_cons_succ]; exact rfl)
                       · exact rfl
                       first
                       | (refine quiet_load_node _ rfl _ 0 _ rfl hlA ?_; refine hK _ ?_; clear hK K; try simp only [Act.put, List.setIfInBounds_toArray, List.set_cons_zero, List.set_cons_succ])
                       | (refine quiet_load_node _ rfl _ 0 _ rfl hlO ?_; refine hK _ ?_; clear hK K; try simp only [Act.put, List.setIfInBounds_toArray, List.set_cons_zero, List.set_cons_succ])
                       | (refine quiet_load_node _ rfl _ 0 _ rfl hlP ?_; refine hK _ ?_; clear hK K; try simp only [Act.put, List.setIfInBounds_toArray, List.set_cons_zero, List.set_cons_succ])
                       | (refine quiet_load_node _ rfl _ 0 _ rfl hlG ?_; refine hK _ ?_; clear hK K; try simp only [Act.put, List.setIfInBounds_toArray, List.set_cons_zero, List.set_cons_succ])
                       | (refine quiet_load_node _ rfl _ 0 _ rfl hlH ?_; refine hK _ ?_; clear hK K; try simp only [Act.put, List.setIfInBounds_toArray, List.set_cons_zero, List.set_cons_succ])
                       | (refine quiet_load_node _ rfl _ 0 _ rfl hlD ?_; refine hK _ ?_; clear hK K; try simp only [Act.put, List.setIfInBounds_toArray, List.set_cons_zero, List.set_cons_succ])
                       | (refine quiet_load_node _ rfl _ 0 _ rfl hlM ?_; refine hK _ ?_; clear hK K; try simp only [Act.put, List.setIfInBounds_toArray, List.set_cons_zero, List.set_cons_succ])
                       | (refine quiet_load_node _ rfl _ 0 _ rfl hlB ?_; refine hK _ ?_; clear hK K; try simp only [Act.put, List.setIfInBounds_toArray, List.set_cons_zero, List.set_cons_succ])
                       | (go_big_quiet_op; refine hK _ ?_; clear hK K)))
                refine' eager_call ?_ ?_ (fun K hK => ?_)
                rotate_left 1
                · first | (simp only [List.getElem?_toArray]; exact rfl) | (simp only [List.getElem?_toArray, List.getElem?_cons_zero, List.getElem?_cons_succ]; exact rfl)
                · exact rfl
                go_simp
                refine (good_walk false false 2 (at_pair HJ2.out (BA.out _ hcur).2)).mono ?_
                rintro e wn ⟨he, hb⟩
                obtain rfl : e = .returned (.bool false) := he.trans (congrArg (fun b : Bool => Ending.returned (.bool b)) HK.out.k7)
                refine hK _ _ hb ?_
                replace hcur := (hcur.alloc hcur.size _).trans (hb.mono (by have := hcur.size; simp; omega))
                clear hb hK K
                try simp only [Act.put, List.setIfInBounds_toArray, List.set_cons_zero, List.set_cons_succ]
                repeat (first
                    | (refine' eager_skip ?_ ?_ ?_
                       rotate_left 1
                       · first | (simp only [List.getElem?_toArray]; exact rfl) | (simp only [List.getElem?_toArray, List.getElem?_cons_zero, List.getElem?_cons_succ]; exact rfl)
                       · exact rfl
                       simp only [Act.put, List.setIfInBounds_toArray, List.set_cons_zero, List.set_cons_succ])
                    | (refine' eager_want ?_ ?_ (fun K hK => ?_)
                       rotate_left 1
                       · first | (simp only [List.getElem?_toArray]; exact rfl) | (simp only [List.getElem?_toArray, List.getElem?_cons_zero, List.getElem?_cons_succ]; exact rfl)
                       · exact rfl
                       first
                       | (refine quiet_load_node _ rfl _ 0 _ rfl hlA ?_; refine hK _ ?_; clear hK K; try simp only [Act.put, List.setIfInBounds_toArray, List.set_cons_zero, List.set_cons_succ])
                       | (refine quiet_load_node _ rfl _ 0 _ rfl hlO ?_; refine hK _ ?_; clear hK K; try simp only [Act.put, List.setIfInBounds_toArray, List.set_cons_zero, List.set_cons_succ])
                       | (refine quiet_load_node _ rfl _ 0 _ rfl hlP ?_; refine hK _ ?_; clear hK K; try simp only [Act.put, List.setIfInBounds_toArray, List.set_cons_zero, List.set_cons_succ])
                       | (refine quiet_load_node _ rfl _ 0 _ rfl hlG ?_; refine hK _ ?_; clear hK K; try simp only [Act.put, List.setIfInBounds_toArray, List.set_cons_zero, List.set_cons_succ])
                       | (refine quiet_load_node _ rfl _ 0 _ rfl hlH ?_; refine hK _ ?_; clear hK K; try simp only [Act.put, List.setIfInBounds_toArray, List.set_cons_zero, List.set_cons_succ])
                       | (refine quiet_load_node _ rfl _ 0 _ rfl hlD ?_; refine hK _ ?_; clear hK K; try simp only [Act.put, List.setIfInBounds_toArray, List.set_cons_zero, List.set_cons_succ])
                       | (refine quiet_load_node _ rfl _ 0 _ rfl hlM ?_; refine hK _ ?_; clear hK K; try simp only [Act.put, List.setIfInBounds_toArray, List.set_cons_zero, List.set_cons_succ])
                       | (refine quiet_load_node _ rfl _ 0 _ rfl hlB ?_; refine hK _ ?_; clear hK K; try simp only [Act.put, List.setIfInBounds_toArray, List.set_cons_zero, List.set_cons_succ])
                       | (go_big_quiet_op; refine hK _ ?_; clear hK K)))
                refine' eager_call ?_ ?_ (fun K hK => ?_)
                rotate_left 1
                · first | (simp only [List.getElem?_toArray]; exact rfl) | (simp only [List.getElem?_toArray, List.getElem?_cons_zero, List.getElem?_cons_succ]; exact rfl)
                · exact rfl
                go_simp
                refine (good_walk false false 0 (BD.out _ hcur).2).mono ?_
                rintro e wn ⟨he, hb⟩
                obtain rfl : e = .returned (.bool true) := he.trans (congrArg (fun b : Bool => Ending.returned (.bool b)) HK.out.k8)
                refine hK _ _ hb ?_
                replace hcur := hcur.trans (hb.mono hcur.size)
                clear hb hK K
                try simp only [Act.put, List.setIfInBounds_toArray, List.set_cons_zero, List.set_cons_succ]
                repeat (first
                    | (refine' eager_skip ?_ ?_ ?_
                       rotate_left 1
                       · first | (simp only [List.getElem?_toArray]; exact rfl) | (simp only [List.getElem?_toArray, List.getElem?_cons_zero, List.getElem?_cons_succ]; exact rfl)
                       · exact rfl
                       simp only [Act.put, List.setIfInBounds_toArray, List.set_cons_zero, List.set_cons_succ])
                    | (refine' eager_want ?_ ?_ (fun K hK => ?_)
                       rotate_left 1
                       · first | (simp only [List.getElem?_toArray]; exact rfl) | (simp only [List.getElem?_toArray, List.getElem?_cons_zero, List.getElem?_cons_succ]; exact rfl)
                       · exact rfl
                       first
                       | (refine quiet_load_node _ rfl _ 0 _ rfl hlA ?_; refine hK _ ?_; clear hK K; try simp only [Act.put, List.setIfInBounds_toArray, List.set_cons_zero, List.set_cons_succ])
                       | (refine quiet_load_node _ rfl _ 0 _ rfl hlO ?_; refine hK _ ?_; clear hK K; try simp only [Act.put, List.setIfInBounds_toArray, List.set_cons_zero, List.set_cons_succ])
                       | (refine quiet_load_node _ rfl _ 0 _ rfl hlP ?_; refine hK _ ?_; clear hK K; try simp only [Act.put, List.setIfInBounds_toArray, List.set_cons_zero, List.set_cons_succ])
                       | (refine quiet_load_node _ rfl _ 0 _ rfl hlG ?_; refine hK _ ?_; clear hK K; try simp only [Act.put, List.setIfInBounds_toArray, List.set_cons_zero, List.set_cons_succ])
                       | (refine quiet_load_node _ rfl _ 0 _ rfl hlH ?_; refine hK _ ?_; clear hK K; try simp only [Act.put, List.setIfInBounds_toArray, List.set_cons_zero, List.set_cons_succ])
                       | (refine quiet_load_node _ rfl _ 0 _ rfl hlD ?_; refine hK _ ?_; clear hK K; try simp only [Act.put, List.setIfInBounds_toArray, List.set_cons_zero, List.set_cons_succ])
                       | (refine quiet_load_node _ rfl _ 0 _ rfl hlM ?_; refine hK _ ?_; clear hK K; try simp only [Act.put, List.setIfInBounds_toArray, List.set_cons_zero, List.set_cons_succ])
                       | (refine quiet_load_node _ rfl _ 0 _ rfl hlB ?_; refine hK _ ?_; clear hK K; try simp only [Act.put, List.setIfInBounds_toArray, List.set_cons_zero, List.set_cons_succ])
                       | (go_big_quiet_op; refine hK _ ?_; clear hK K)))
                refine' eager_call ?_ ?_ (fun K hK => ?_)
                rotate_left 1
                · first | (simp only [List.getElem?_toArray]; exact rfl) | (simp only [List.getElem?_toArray, List.getElem?_cons_zero, List.getElem?_cons_succ]; exact rfl)
                · exact rfl
                go_simp
                refine (Depth_any (BD.out _ hcur).2).mono ?_
                rintro e wn ⟨he, hb⟩
                obtain rfl : e = .returned (.int .i64 64) := he.trans (congrArg (fun n : Nat => Ending.returned (.int .i64 (n : Int))) HK.out.k9)
                refine hK _ _ hb ?_
                replace hcur := hcur.trans (hb.mono hcur.size)
                clear hb hK K
                try simp only [Act.put, List.setIfInBounds_toArray, List.set_cons_zero, List.set_cons_succ]
                repeat (first
                    | (refine' eager_skip ?_ ?_ ?_
                       rotate_left 1
                       · first | (simp only [List.getElem?_toArray]; exact rfl) | (simp only [List.getElem?_toArray, List.getElem?_cons_zero, List.getElem?_cons_succ]; exact rfl)
                       · exact rfl
                       simp only [Act.put, List.setIfInBounds_toArray, List.set_cons_zero, List.set_cons_succ])
                    | (refine' eager_want ?_ ?_ (fun K hK => ?_)
                       rotate_left 1
                       · first | (simp only [List.getElem?_toArray]; exact rfl) | (simp only [List.getElem?_toArray, List.getElem?_cons_zero, List.getElem?_cons_succ]; exact rfl)
                       · exact rfl
                       first
                       | (refine quiet_load_node _ rfl _ 0 _ rfl hlA ?_; refine hK _ ?_; clear hK K; try simp only [Act.put, List.setIfInBounds_toArray, List.set_cons_zero, List.set_cons_succ])
                       | (refine quiet_load_node _ rfl _ 0 _ rfl hlO ?_; refine hK _ ?_; clear hK K; try simp only [Act.put, List.setIfInBounds_toArray, List.set_cons_zero, List.set_cons_succ])
                       | (refine quiet_load_node _ rfl _ 0 _ rfl hlP ?_; refine hK _ ?_; clear hK K; try simp only [Act.put, List.setIfInBounds_toArray, List.set_cons_zero, List.set_cons_succ])
                       | (refine quiet_load_node _ rfl _ 0 _ rfl hlG ?_; refine hK _ ?_; clear hK K; try simp only [Act.put, List.setIfInBounds_toArray, List.set_cons_zero, List.set_cons_succ])
                       | (refine quiet_load_node _ rfl _ 0 _ rfl hlH ?_; refine hK _ ?_; clear hK K; try simp only [Act.put, List.setIfInBounds_toArray, List.set_cons_zero, List.set_cons_succ])
                       | (refine quiet_load_node _ rfl _ 0 _ rfl hlD ?_; refine hK _ ?_; clear hK K; try simp only [Act.put, List.setIfInBounds_toArray, List.set_cons_zero, List.set_cons_succ])
                       | (refine quiet_load_node _ rfl _ 0 _ rfl hlM ?_; refine hK _ ?_; clear hK K; try simp only [Act.put, List.setIfInBounds_toArray, List.set_cons_zero, List.set_cons_succ])
                       | (refine quiet_load_node _ rfl _ 0 _ rfl hlB ?_; refine hK _ ?_; clear hK K; try simp only [Act.put, List.setIfInBounds_toArray, List.set_cons_zero, List.set_cons_succ])
                       | (go_big_quiet_op; refine hK _ ?_; clear hK K)))
                refine' eager_call ?_ ?_ (fun K hK => ?_)
                rotate_left 1
                · first | (simp only [List.getElem?_toArray]; exact rfl) | (simp only [List.getElem?_toArray, List.getElem?_cons_zero, List.getElem?_cons_succ]; exact rfl)
                · exact rfl
                go_simp
                refine (good_walk false false 0 (BM.out _ hcur).2).mono ?_
                rintro e wn ⟨he, hb⟩
                obtain rfl : e = .returned (.bool false) := he.trans (congrArg (fun b : Bool => Ending.returned (.bool b)) HK.out.k10)
                refine hK _ _ hb ?_
                replace hcur := hcur.trans (hb.mono hcur.size)
                clear hb hK K
                try simp only [Act.put, List.setIfInBounds_toArray, List.set_cons_zero, List.set_cons_succ]
                repeat (first
                    | (refine' eager_skip ?_ ?_ ?_
                       rotate_left 1
                       · first | (simp only [List.getElem?_toArray]; exact rfl) | (simp only [List.getElem?_toArray, List.getElem?_cons_zero, List.getElem?_cons_succ]; exact rfl)
                       · exact rfl
                       simp only [Act.put, List.setIfInBounds_toArray, List.set_cons_zero, List.set_cons_succ])
                    | (refine' eager_want ?_ ?_ (fun K hK => ?_)
                       rotate_left 1
                       · first | (simp only [List.getElem?_toArray]; exact rfl) | (simp only [List.getElem?_toArray, List.getElem?_cons_zero, List.getElem?_cons_succ]; exact rfl)
                       · exact rfl
                       first
                       | (refine quiet_load_node _ rfl _ 0 _ rfl hlA ?_; refine hK _ ?_; clear hK K; try simp only [Act.put, List.setIfInBounds_toArray, List.set_cons_zero, List.set_cons_succ])
                       | (refine quiet_load_node _ rfl _ 0 _ rfl hlO ?_; refine hK _ ?_; clear hK K; try simp only [Act.put, List.setIfInBounds_toArray, List.set_cons_zero, List.set_cons_succ])
                       | (refine quiet_load_node _ rfl _ 0 _ rfl hlP ?_; refine hK _ ?_; clear hK K; try simp only [Act.put, List.setIfInBounds_toArray, List.set_cons_zero, List.set_cons_succ])
                       | (refine quiet_load_node _ rfl _ 0 _ rfl hlG ?_; refine hK _ ?_; clear hK K; try simp only [Act.put, List.setIfInBounds_toArray, List.set_cons_zero, List.set_cons_succ])
                       | (refine quiet_load_node _ rfl _ 0 _ rfl hlH ?_; refine hK _ ?_; clear hK K; try simp only [Act.put, List.setIfInBounds_toArray, List.set_cons_zero, List.set_cons_succ])
                       | (refine quiet_load_node _ rfl _ 0 _ rfl hlD ?_; refine hK _ ?_; clear hK K; try simp only [Act.put, List.setIfInBounds_toArray, List.set_cons_zero, List.set_cons_succ])
                       | (refine quiet_load_node _ rfl _ 0 _ rfl hlM ?_; refine hK _ ?_; clear hK K; try simp only [Act.put, List.setIfInBounds_toArray, List.set_cons_zero, List.set_cons_succ])
                       | (refine quiet_load_node _ rfl _ 0 _ rfl hlB ?_; refine hK _ ?_; clear hK K; try simp only [Act.put, List.setIfInBounds_toArray, List.set_cons_zero, List.set_cons_succ])
                       | (go_big_quiet_op; refine hK _ ?_; clear hK K)))
                refine' eager_call ?_ ?_ (fun K hK => ?_)
                rotate_left 1
                · first | (simp only [List.getElem?_toArray]; exact rfl) | (simp only [List.getElem?_toArray, List.getElem?_cons_zero, List.getElem?_cons_succ]; exact rfl)
                · exact rfl
                go_simp
                refine (Depth_any (BM.out _ hcur).2).mono ?_
                rintro e wn ⟨he, hb⟩
                obtain rfl : e = .returned (.int .i64 65) := he.trans (congrArg (fun n : Nat => Ending.returned (.int .i64 (n : Int))) HK.out.k11)
                refine hK _ _ hb ?_
                replace hcur := hcur.trans (hb.mono hcur.size)
                clear hb hK K
                try simp only [Act.put, List.setIfInBounds_toArray, List.set_cons_zero, List.set_cons_succ]
                repeat (first
                    | (refine' eager_skip ?_ ?_ ?_
                       rotate_left 1
                       · first | (simp only [List.getElem?_toArray]; exact rfl) | (simp only [List.getElem?_toArray, List.getElem?_cons_zero, List.getElem?_cons_succ]; exact rfl)
                       · exact rfl
                       simp only [Act.put, List.setIfInBounds_toArray, List.set_cons_zero, List.set_cons_succ])
                    | (refine' eager_want ?_ ?_ (fun K hK => ?_)
                       rotate_left 1
                       · first | (simp only [List.getElem?_toArray]; exact rfl) | (simp only [List.getElem?_toArray, List.getElem?_cons_zero, List.getElem?_cons_succ]; exact rfl)
                       · exact rfl
                       first
                       | (refine quiet_load_node _ rfl _ 0 _ rfl hlA ?_; refine hK _ ?_; clear hK K; try simp only [Act.put, List.setIfInBounds_toArray, List.set_cons_zero, List.set_cons_succ])
                       | (refine quiet_load_node _ rfl _ 0 _ rfl hlO ?_; refine hK _ ?_; clear hK K; try simp only [Act.put, List.setIfInBounds_toArray, List.set_cons_zero, List.set_cons_succ])
                       | (refine quiet_load_node _ rfl _ 0 _ rfl hlP ?_; refine hK _ ?_; clear hK K; try simp only [Act.put, List.setIfInBounds_toArray, List.set_cons_zero, List.set_cons_succ])
                       | (refine quiet_load_node _ rfl _ 0 _ rfl hlG ?_; refine hK _ ?_; clear hK K; try simp only [Act.put, List.setIfInBounds_toArray, List.set_cons_zero, List.set_cons_succ])
                       | (refine quiet_load_node _ rfl _ 0 _ rfl hlH ?_; refine hK _ ?_; clear hK K; try simp only [Act.put, List.setIfInBounds_toArray, List.set_cons_zero, List.set_cons_succ])
                       | (refine quiet_load_node _ rfl _ 0 _ rfl hlD ?_; refine hK _ ?_; clear hK K; try simp only [Act.put, List.setIfInBounds_toArray, List.set_cons_zero, List.set_cons_succ])
                       | (refine quiet_load_node _ rfl _ 0 _ rfl hlM ?_; refine hK _ ?_; clear hK K; try simp only [Act.put, List.setIfInBounds_toArray, List.set_cons_zero, List.set_cons_succ])
                       | (refine quiet_load_node _ rfl _ 0 _ rfl hlB ?_; refine hK _ ?_; clear hK K; try simp only [Act.put, List.setIfInBounds_toArray, List.set_cons_zero, List.set_cons_succ])
                       | (go_big_quiet_op; refine hK _ ?_; clear hK K)))
                refine' eager_call ?_ ?_ (fun K hK => ?_)
                rotate_left 1
                · first | (simp only [List.getElem?_toArray]; exact rfl) | (simp only [List.getElem?_toArray, List.getElem?_cons_zero, List.getElem?_cons_succ]; exact rfl)
                · exact rfl
                go_simp
                refine (good_walk false false 0 (BB.out _ hcur).2).mono ?_
                rintro e wn ⟨he, hb⟩
                obtain rfl : e = .returned (.bool false) := he.trans (congrArg (fun b : Bool => Ending.returned (.bool b)) HK.out.k12)
                refine hK _ _ hb ?_
                replace hcur := hcur.trans (hb.mono hcur.size)
                clear hb hK K
                try simp only [Act.put, List.setIfInBounds_toArray, List.set_cons_zero, List.set_cons_succ]
                repeat (first
                    | (refine' eager_skip ?_ ?_ ?_
                       rotate_left 1
                       · first | (simp only [List.getElem?_toArray]; exact rfl) | (simp only [List.getElem?_toArray, List.getElem?_cons_zero, List.getElem?_cons_succ]; exact rfl)
                       · exact rfl
                       simp only [Act.put, List.setIfInBounds_toArray, List.set_cons_zero, List.set_cons_succ])
                    | (refine' eager_want ?_ ?_ (fun K hK => ?_)
                       rotate_left 1
                       · first | (simp only [List.getElem?_toArray]; exact rfl) | (simp only [List.getElem?_toArray, List.getElem?_cons_zero, List.getElem?_cons_succ]; exact rfl)
                       · exact rfl
                       first
                       | (refine quiet_load_node _ rfl _ 0 _ rfl hlA ?_; refine hK _ ?_; clear hK K; try simp only [Act.put, List.setIfInBounds_toArray, List.set_cons_zero, List.set_cons_succ])
                       | (refine quiet_load_node _ rfl _ 0 _ rfl hlO ?_; refine hK _ ?_; clear hK K; try simp only [Act.put, List.setIfInBounds_toArray, List.set_cons_zero, List.set_cons_succ])
                       | (refine quiet_load_node _ rfl _ 0 _ rfl hlP ?_; refine hK _ ?_; clear hK K; try simp only [Act.put, List.setIfInBounds_toArray, List.set_cons_zero, List.set_cons_succ])
                       | (refine quiet_load_node _ rfl _ 0 _ rfl hlG ?_; refine hK _ ?_; clear hK K; try simp only [Act.put, List.setIfInBounds_toArray, List.set_cons_zero, List.set_cons_succ])
                       | (refine quiet_load_node _ rfl _ 0 _ rfl hlH ?_; refine hK _ ?_; clear hK K; try simp only [Act.put, List.setIfInBounds_toArray, List.set_cons_zero, List.set_cons_succ])
                       | (refine quiet_load_node _ rfl _ 0 _ rfl hlD ?_; refine hK _ ?_; clear hK K; try simp only [Act.put, List.setIfInBounds_toArray, List.set_cons_zero, List.set_cons_succ])
                       | (refine quiet_load_node _ rfl _ 0 _ rfl hlM ?_; refine hK _ ?_; clear hK K; try simp only [Act.put, List.setIfInBounds_toArray, List.set_cons_zero, List.set_cons_succ])
                       | (refine quiet_load_node _ rfl _ 0 _ rfl hlB ?_; refine hK _ ?_; clear hK K; try simp only [Act.put, List.setIfInBounds_toArray, List.set_cons_zero, List.set_cons_succ])
                       | (go_big_quiet_op; refine hK _ ?_; clear hK K)))
                refine' eager_call ?_ ?_ (fun K hK => ?_)
                rotate_left 1
                · first | (simp only [List.getElem?_toArray]; exact rfl) | (simp only [List.getElem?_toArray, List.getElem?_cons_zero, List.getElem?_cons_succ]; exact rfl)
                · exact rfl
                go_simp
                refine (size_walk (BB.out _ hcur).2).mono ?_
                rintro e wn ⟨he, hb⟩
                obtain rfl : e = .returned (.int .i64 2001) := he.trans (congrArg (fun n : Nat => Ending.returned (.int .i64 (n : Int))) HK.out.k13)
                refine hK _ _ hb ?_
                replace hcur := hcur.trans (hb.mono hcur.size)
                clear hb hK K
                try simp only [Act.put, List.setIfInBounds_toArray, List.set_cons_zero, List.set_cons_succ]
                repeat (first
                    | (refine' eager_skip ?_ ?_ ?_
                       rotate_left 1
                       · first | (simp only [List.getElem?_toArray]; exact rfl) | (simp only [List.getElem?_toArray, List.getElem?_cons_zero, List.getElem?_cons_succ]; exact rfl)
                       · exact rfl
                       simp only [Act.put, List.setIfInBounds_toArray, List.set_cons_zero, List.set_cons_succ])
                    | (refine' eager_want ?_ ?_ (fun K hK => ?_)
                       rotate_left 1
                       · first | (simp only [List.getElem?_toArray]; exact rfl) | (simp only [List.getElem?_toArray, List.getElem?_cons_zero, List.getElem?_cons_succ]; exact rfl)
                       · exact rfl
                       first
                       | (refine quiet_load_node _ rfl _ 0 _ rfl hlA ?_; refine hK _ ?_; clear hK K; try simp only [Act.put, List.setIfInBounds_toArray, List.set_cons_zero, List.set_cons_succ])
                       | (refine quiet_load_node _ rfl _ 0 _ rfl hlO ?_; refine hK _ ?_; clear hK K; try simp only [Act.put, List.setIfInBounds_toArray, List.set_cons_zero, List.set_cons_succ])
                       | (refine quiet_load_node _ rfl _ 0 _ rfl hlP ?_; refine hK _ ?_; clear hK K; try simp only [Act.put, List.setIfInBounds_toArray, List.set_cons_zero, List.set_cons_succ])
                       | (refine quiet_load_node _ rfl _ 0 _ rfl hlG ?_; refine hK _ ?_; clear hK K; try simp only [Act.put, List.setIfInBounds_toArray, List.set_cons_zero, List.set_cons_succ])
                       | (refine quiet_load_node _ rfl _ 0 _ rfl hlH ?_; refine hK _ ?_; clear hK K; try simp only [Act.put, List.setIfInBounds_toArray, List.set_cons_zero, List.set_cons_succ])
                       | (refine quiet_load_node _ rfl _ 0 _ rfl hlD ?_; refine hK _ ?_; clear hK K; try simp only [Act.put, List.setIfInBounds_toArray, List.set_cons_zero, List.set_cons_succ])
                       | (refine quiet_load_node _ rfl _ 0 _ rfl hlM ?_; refine hK _ ?_; clear hK K; try simp only [Act.put, List.setIfInBounds_toArray, List.set_cons_zero, List.set_cons_succ])
                       | (refine quiet_load_node _ rfl _ 0 _ rfl hlB ?_; refine hK _ ?_; clear hK K; try simp only [Act.put, List.setIfInBounds_toArray, List.set_cons_zero, List.set_cons_succ])
                       | (go_big_quiet_op; refine hK _ ?_; clear hK K)))
                refine' eager_call ?_ ?_ (fun K hK => ?_)
                rotate_left 1
                · first | (simp only [List.getElem?_toArray]; exact rfl) | (simp only [List.getElem?_toArray, List.getElem?_cons_zero, List.getElem?_cons_succ]; exact rfl)
                · exact rfl
                go_simp
                refine (same_any (nOf S).count (nOf S) (nOf S) _ _ _ (Nat.le_refl _) (BO.out _ hcur).2 (BO.out _ hcur).2).mono ?_
                rintro e wn ⟨he, hb⟩
                obtain rfl : e = .returned (.bool true) := he.trans (congrArg (fun b : Bool => Ending.returned (.bool b)) HK.out.k14)
                refine hK _ _ hb ?_
                replace hcur := hcur.trans (hb.mono hcur.size)
                clear hb hK K
                try simp only [Act.put, List.setIfInBounds_toArray, List.set_cons_zero, List.set_cons_succ]
                repeat (first
                    | (refine' eager_skip ?_ ?_ ?_
                       rotate_left 1
                       · first | (simp only [List.getElem?_toArray]; exact rfl) | (simp only [List.getElem?_toArray, List.getElem?_cons_zero, List.getElem?_cons_succ]; exact rfl)
                       · exact rfl
                       simp only [Act.put, List.setIfInBounds_toArray, List.set_cons_zero, List.set_cons_succ])
                    | (refine' eager_want ?_ ?_ (fun K hK => ?_)
                       rotate_left 1
                       · first | (simp only [List.getElem?_toArray]; exact rfl) | (simp only [List.getElem?_toArray, List.getElem?_cons_zero, List.getElem?_cons_succ]; exact rfl)
                       · exact rfl
                       first
                       | (refine quiet_load_node _ rfl _ 0 _ rfl hlA ?_; refine hK _ ?_; clear hK K; try simp only [Act.put, List.setIfInBounds_toArray, List.set_cons_zero, List.set_cons_succ])
                       | (refine quiet_load_node _ rfl _ 0 _ rfl hlO ?_; refine hK _ ?_; clear hK K; try simp only [Act.put, List.setIfInBounds_toArray, List.set_cons_zero, List.set_cons_succ])
                       | (refine quiet_load_node _ rfl _ 0 _ rfl hlP ?_; refine hK _ ?_; clear hK K; try simp only [Act.put, List.setIfInBounds_toArray, List.set_cons_zero, List.set_cons_succ])
                       | (refine quiet_load_node _ rfl _ 0 _ rfl hlG ?_; refine hK _ ?_; clear hK K; try simp only [Act.put, List.setIfInBounds_toArray, List.set_cons_zero, List.set_cons_succ])
                       | (refine quiet_load_node _ rfl _ 0 _ rfl hlH ?_; refine hK _ ?_; clear hK K; try simp only [Act.put, List.setIfInBounds_toArray, List.set_cons_zero, List.set_cons_succ])
                       | (refine quiet_load_node _ rfl _ 0 _ rfl hlD ?_; refine hK _ ?_; clear hK K; try simp only [Act.put, List.setIfInBounds_toArray, List.set_cons_zero, List.set_cons_succ])
                       | (refine quiet_load_node _ rfl _ 0 _ rfl hlM ?_; refine hK _ ?_; clear hK K; try simp only [Act.put, List.setIfInBounds_toArray, List.set_cons_zero, List.set_cons_succ])
                       | (refine quiet_load_node _ rfl _ 0 _ rfl hlB ?_; refine hK _ ?_; clear hK K; try simp only [Act.put, List.setIfInBounds_toArray, List.set_cons_zero, List.set_cons_succ])
                       | (go_big_quiet_op; refine hK _ ?_; clear hK K)))
                refine' eager_call ?_ ?_ (fun K hK => ?_)
                rotate_left 1
                · first | (simp only [List.getElem?_toArray]; exact rfl) | (simp only [List.getElem?_toArray, List.getElem?_cons_zero, List.getElem?_cons_succ]; exact rfl)
                · exact rfl
                go_simp
                refine (same_any (nOf S).count (nOf S) (nRep S) _ _ _ (Nat.le_refl _) (BO.out _ hcur).2 (BP.out _ hcur).2).mono ?_
                rintro e wn ⟨he, hb⟩
                obtain rfl : e = .returned (.bool false) := he.trans (congrArg (fun b : Bool => Ending.returned (.bool b)) HK.out.k15)
                refine hK _ _ hb ?_
                replace hcur := hcur.trans (hb.mono hcur.size)
                clear hb hK K
                try simp only [Act.put, List.setIfInBounds_toArray, List.set_cons_zero, List.set_cons_succ]
                repeat (first
                    | (refine' eager_skip ?_ ?_ ?_
                       rotate_left 1
                       · first | (simp only [List.getElem?_toArray]; exact rfl) | (simp only [List.getElem?_toArray, List.getElem?_cons_zero, List.getElem?_cons_succ]; exact rfl)
                       · exact rfl
                       simp only [Act.put, List.setIfInBounds_toArray, List.set_cons_zero, List.set_cons_succ])
                    | (refine' eager_want ?_ ?_ (fun K hK => ?_)
                       rotate_left 1
                       · first | (simp only [List.getElem?_toArray]; exact rfl) | (simp only [List.getElem?_toArray, List.getElem?_cons_zero, List.getElem?_cons_succ]; exact rfl)
                       · exact rfl
                       first
                       | (refine quiet_load_node _ rfl _ 0 _ rfl hlA ?_; refine hK _ ?_; clear hK K; try simp only [Act.put, List.setIfInBounds_toArray, List.set_cons_zero, List.set_cons_succ])
                       | (refine quiet_load_node _ rfl _ 0 _ rfl hlO ?_; refine hK _ ?_; clear hK K; try simp only [Act.put, List.setIfInBounds_toArray, List.set_cons_zero, List.set_cons_succ])
                       | (refine quiet_load_node _ rfl _ 0 _ rfl hlP ?_; refine hK _ ?_; clear hK K; try simp only [Act.put, List.setIfInBounds_toArray, List.set_cons_zero, List.set_cons_succ])
                       | (refine quiet_load_node _ rfl _ 0 _ rfl hlG ?_; refine hK _ ?_; clear hK K; try simp only [Act.put, List.setIfInBounds_toArray, List.set_cons_zero, List.set_cons_succ])
                       | (refine quiet_load_node _ rfl _ 0 _ rfl hlH ?_; refine hK _ ?_; clear hK K; try simp only [Act.put, List.setIfInBounds_toArray, List.set_cons_zero, List.set_cons_succ])
                       | (refine quiet_load_node _ rfl _ 0 _ rfl hlD ?_; refine hK _ ?_; clear hK K; try simp only [Act.put, List.setIfInBounds_toArray, List.set_cons_zero, List.set_cons_succ])
                       | (refine quiet_load_node _ rfl _ 0 _ rfl hlM ?_; refine hK _ ?_; clear hK K; try simp only [Act.put, List.setIfInBounds_toArray, List.set_cons_zero, List.set_cons_succ])
                       | (refine quiet_load_node _ rfl _ 0 _ rfl hlB ?_; refine hK _ ?_; clear hK K; try simp only [Act.put, List.setIfInBounds_toArray, List.set_cons_zero, List.set_cons_succ])
                       | (go_big_quiet_op; refine hK _ ?_; clear hK K)))
                have hst := sets_walk (BO.out _ hcur).2
                have f16 := HK.out.k16
                generalize accN ((nOf S).pre.take 100000) [] = L at hst f16
                refine' eager_call ?_ ?_ (fun K hK => ?_)
                rotate_left 1
                · first | (simp only [List.getElem?_toArray]; exact rfl) | (simp only [List.getElem?_toArray, List.getElem?_cons_zero, List.getElem?_cons_succ]; exact rfl)
                · exact rfl
                go_simp
                refine (hst).mono ?_
                rintro e wn ⟨a', cap', he, _, hb, _⟩
                rw [f16] at he
                subst he
                refine hK _ _ hb ?_
                replace hcur := hcur.trans (hb.mono hcur.size)
                clear hst f16
                clear hb hK K
                try simp only [Act.put, List.setIfInBounds_toArray, List.set_cons_zero, List.set_cons_succ]
                repeat (first
                    | (refine' eager_skip ?_ ?_ ?_
                       rotate_left 1
                       · first | (simp only [List.getElem?_toArray]; exact rfl) | (simp only [List.getElem?_toArray, List.getElem?_cons_zero, List.getElem?_cons_succ]; exact rfl)
                       · exact rfl
                       simp only [Act.put, List.setIfInBounds_toArray, List.set_cons_zero, List.set_cons_succ])
                    | (refine' eager_want ?_ ?_ (fun K hK => ?_)
                       rotate_left 1
                       · first | (simp only [List.getElem?_toArray]; exact rfl) | (simp only [List.getElem?_toArray, List.getElem?_cons_zero, List.getElem?_cons_succ]; exact rfl)
                       · exact rfl
                       first
                       | (refine quiet_load_node _ rfl _ 0 _ rfl hlA ?_; refine hK _ ?_; clear hK K; try simp only [Act.put, List.setIfInBounds_toArray, List.set_cons_zero, List.set_cons_succ])
                       | (refine quiet_load_node _ rfl _ 0 _ rfl hlO ?_; refine hK _ ?_; clear hK K; try simp only [Act.put, List.setIfInBounds_toArray, List.set_cons_zero, List.set_cons_succ])
                       | (refine quiet_load_node _ rfl _ 0 _ rfl hlP ?_; refine hK _ ?_; clear hK K; try simp only [Act.put, List.setIfInBounds_toArray, List.set_cons_zero, List.set_cons_succ])
                       | (refine quiet_load_node _ rfl _ 0 _ rfl hlG ?_; refine hK _ ?_; clear hK K; try simp only [Act.put, List.setIfInBounds_toArray, List.set_cons_zero, List.set_cons_succ])
                       | (refine quiet_load_node _ rfl _ 0 _ rfl hlH ?_; refine hK _ ?_; clear hK K; try simp only [Act.put, List.setIfInBounds_toArray, List.set_cons_zero, List.set_cons_succ])
                       | (refine quiet_load_node _ rfl _ 0 _ rfl hlD ?_; refine hK _ ?_; clear hK K; try simp only [Act.put, List.setIfInBounds_toArray, List.set_cons_zero, List.set_cons_succ])
                       | (refine quiet_load_node _ rfl _ 0 _ rfl hlM ?_; refine hK _ ?_; clear hK K; try simp only [Act.put, List.setIfInBounds_toArray, List.set_cons_zero, List.set_cons_succ])
                       | (refine quiet_load_node _ rfl _ 0 _ rfl hlB ?_; refine hK _ ?_; clear hK K; try simp only [Act.put, List.setIfInBounds_toArray, List.set_cons_zero, List.set_cons_succ])
                       | (go_big_quiet_op; refine hK _ ?_; clear hK K)))
                refine eager_done ?_
                go_wp2_with fail
                go_ret
                exact ⟨rfl, HwW.out.trans (hcur.mono HwW.out.size)⟩
end Go.Proofs.Ytjfenbjamlflcaa
