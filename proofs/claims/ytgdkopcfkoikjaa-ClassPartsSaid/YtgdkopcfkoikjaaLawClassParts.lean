/- The walk of the law on what classes say of one another. -/
import Derived.Test.YtgdkopcfkoikjaaClassAwake
import Derived.Test.YtgdkopcfkoikjaaCut
import Derived.Test.YtgdkopcfkoikjaaLex
namespace Go.Proofs.Ytgdkopcfkoikjaa
open Go.RowKit
theorem setAt_below {B : Nat} {w w' : World} {b : Nat} {s : BitVec 256} (h : SetAt w b s) (hb : Below B w w') (hlt : b < B) : SetAt w' b s := by
  unfold SetAt at *
  rw [hb.block b hlt]; exact h
theorem setAt_made (w : World) (s : BitVec 256) : SetAt (w.alloc (.cells #[.int .u64 (word s 0), .int .u64 (word s 1), .int .u64 (word s 2), .int .u64 (word s 3)] 27)) w.heap.size s := by
  unfold SetAt World.alloc
  simp
theorem kept_step {B : Nat} {a w wE : World} {O : Obj} (h : Below B a w) (hB : B ≤ w.heap.size) (hD : Below (w.heap.size + 1) (w.alloc O) wE) : Below B a wE :=
  (h.alloc hB O).trans (hD.mono (by omega))

theorem parts_facts : ∀ b : Nat, b < 256 → (cAlpha.getLsbD b == (cUpper.getLsbD b || cLower.getLsbD b)) = true ∧ (cAlnum.getLsbD b == (cAlpha.getLsbD b || cDigit.getLsbD b)) = true ∧ (cGraph.getLsbD b == (cAlnum.getLsbD b || cPunct.getLsbD b)) = true ∧ (!(cAlnum.getLsbD b && cPunct.getLsbD b)) = true ∧ (cPrint.getLsbD b == (cGraph.getLsbD b || ((b : Int) == 32))) = true ∧ (!cBlank.getLsbD b || cSpace.getLsbD b) = true ∧ (!(cCntrl.getLsbD b && cPrint.getLsbD b)) = true ∧ (!cXdigit.getLsbD b || cAlnum.getLsbD b) = true ∧ (decide ((b : Int) < 128) || (!cPrint.getLsbD b && !cCntrl.getLsbD b)) = true := by decide +kernel
set_option maxHeartbeats 8000000 in
set_option maxRecDepth 100000 in
theorem classParts_walk (b : Nat) (hb256 : b < 256) (w : World) : Calls Try.prog 5 #[.int .u8 b] w fun e w' => e = .returned (.bool true) ∧ Below w.heap.size w w' := by
  obtain ⟨e1, e2, e3, e4, e5, e6, e7, e8, e9⟩ := parts_facts b hb256
  have n_alpha := named_str [97, 108, 112, 104, 97]
  rw [show classOf [97, 108, 112, 104, 97] = (cAlpha, true) from rfl] at n_alpha
  unfold strv at n_alpha
  have hs_alpha := has_any cAlpha b hb256
  have n_upper := named_str [117, 112, 112, 101, 114]
  rw [show classOf [117, 112, 112, 101, 114] = (cUpper, true) from rfl] at n_upper
  unfold strv at n_upper
  have hs_upper := has_any cUpper b hb256
  have n_lower := named_str [108, 111, 119, 101, 114]
  rw [show classOf [108, 111, 119, 101, 114] = (cLower, true) from rfl] at n_lower
  unfold strv at n_lower
  have hs_lower := has_any cLower b hb256
  have n_digit := named_str [100, 105, 103, 105, 116]
  rw [show classOf [100, 105, 103, 105, 116] = (cDigit, true) from rfl] at n_digit
  unfold strv at n_digit
  have hs_digit := has_any cDigit b hb256
  have n_alnum := named_str [97, 108, 110, 117, 109]
  rw [show classOf [97, 108, 110, 117, 109] = (cAlnum, true) from rfl] at n_alnum
  unfold strv at n_alnum
  have hs_alnum := has_any cAlnum b hb256
  have n_punct := named_str [112, 117, 110, 99, 116]
  rw [show classOf [112, 117, 110, 99, 116] = (cPunct, true) from rfl] at n_punct
  unfold strv at n_punct
  have hs_punct := has_any cPunct b hb256
  have n_graph := named_str [103, 114, 97, 112, 104]
  rw [show classOf [103, 114, 97, 112, 104] = (cGraph, true) from rfl] at n_graph
  unfold strv at n_graph
  have hs_graph := has_any cGraph b hb256
  have n_print := named_str [112, 114, 105, 110, 116]
  rw [show classOf [112, 114, 105, 110, 116] = (cPrint, true) from rfl] at n_print
  unfold strv at n_print
  have hs_print := has_any cPrint b hb256
  have n_blank := named_str [98, 108, 97, 110, 107]
  rw [show classOf [98, 108, 97, 110, 107] = (cBlank, true) from rfl] at n_blank
  unfold strv at n_blank
  have hs_blank := has_any cBlank b hb256
  have n_space := named_str [115, 112, 97, 99, 101]
  rw [show classOf [115, 112, 97, 99, 101] = (cSpace, true) from rfl] at n_space
  unfold strv at n_space
  have hs_space := has_any cSpace b hb256
  have n_cntrl := named_str [99, 110, 116, 114, 108]
  rw [show classOf [99, 110, 116, 114, 108] = (cCntrl, true) from rfl] at n_cntrl
  unfold strv at n_cntrl
  have hs_cntrl := has_any cCntrl b hb256
  have n_xdigit := named_str [120, 100, 105, 103, 105, 116]
  rw [show classOf [120, 100, 105, 103, 105, 116] = (cXdigit, true) from rfl] at n_xdigit
  unfold strv at n_xdigit
  have hs_xdigit := has_any cXdigit b hb256
  generalize cAlpha = k_alpha at *
  generalize cUpper = k_upper at *
  generalize cLower = k_lower at *
  generalize cDigit = k_digit at *
  generalize cAlnum = k_alnum at *
  generalize cPunct = k_punct at *
  generalize cGraph = k_graph at *
  generalize cPrint = k_print at *
  generalize cBlank = k_blank at *
  generalize cSpace = k_space at *
  generalize cCntrl = k_cntrl at *
  generalize cXdigit = k_xdigit at *
  go_enter Try.func5, Try.ntmps5
  go_wp2_with fail
  refine (awake2_any _).mono ?_
  rintro e w0 ⟨rfl, hb0⟩
  go_wp2_with fail
  refine (n_alpha _).mono ?_
  rintro e w1 ⟨rfl, hb1⟩
  clear n_alpha
  go_wp2_with fail
  refine (n_upper _).mono ?_
  rintro e w2 ⟨rfl, hb2⟩
  replace hb2 : Below (w1.heap.size + 1) _ w2 := hb2.mono (by simp)
  have hz2 : w1.heap.size + 1 ≤ w2.heap.size := by have := hb2.size; simp at this; omega
  clear n_upper
  go_wp2_with fail
  refine (n_lower _).mono ?_
  rintro e w3 ⟨rfl, hb3⟩
  replace hb3 : Below (w2.heap.size + 1) _ w3 := hb3.mono (by simp)
  have hz3 : w2.heap.size + 1 ≤ w3.heap.size := by have := hb3.size; simp at this; omega
  clear n_lower
  go_wp2_with fail
  refine (n_digit _).mono ?_
  rintro e w4 ⟨rfl, hb4⟩
  replace hb4 : Below (w3.heap.size + 1) _ w4 := hb4.mono (by simp)
  have hz4 : w3.heap.size + 1 ≤ w4.heap.size := by have := hb4.size; simp at this; omega
  clear n_digit
  go_wp2_with fail
  refine (n_alnum _).mono ?_
  rintro e w5 ⟨rfl, hb5⟩
  replace hb5 : Below (w4.heap.size + 1) _ w5 := hb5.mono (by simp)
  have hz5 : w4.heap.size + 1 ≤ w5.heap.size := by have := hb5.size; simp at this; omega
  clear n_alnum
  go_wp2_with fail
  refine (n_punct _).mono ?_
  rintro e w6 ⟨rfl, hb6⟩
  replace hb6 : Below (w5.heap.size + 1) _ w6 := hb6.mono (by simp)
  have hz6 : w5.heap.size + 1 ≤ w6.heap.size := by have := hb6.size; simp at this; omega
  clear n_punct
  go_wp2_with fail
  refine (n_graph _).mono ?_
  rintro e w7 ⟨rfl, hb7⟩
  replace hb7 : Below (w6.heap.size + 1) _ w7 := hb7.mono (by simp)
  have hz7 : w6.heap.size + 1 ≤ w7.heap.size := by have := hb7.size; simp at this; omega
  clear n_graph
  go_wp2_with fail
  refine (n_print _).mono ?_
  rintro e w8 ⟨rfl, hb8⟩
  replace hb8 : Below (w7.heap.size + 1) _ w8 := hb8.mono (by simp)
  have hz8 : w7.heap.size + 1 ≤ w8.heap.size := by have := hb8.size; simp at this; omega
  clear n_print
  go_wp2_with fail
  refine (n_blank _).mono ?_
  rintro e w9 ⟨rfl, hb9⟩
  replace hb9 : Below (w8.heap.size + 1) _ w9 := hb9.mono (by simp)
  have hz9 : w8.heap.size + 1 ≤ w9.heap.size := by have := hb9.size; simp at this; omega
  clear n_blank
  go_wp2_with fail
  refine (n_space _).mono ?_
  rintro e w10 ⟨rfl, hb10⟩
  replace hb10 : Below (w9.heap.size + 1) _ w10 := hb10.mono (by simp)
  have hz10 : w9.heap.size + 1 ≤ w10.heap.size := by have := hb10.size; simp at this; omega
  clear n_space
  go_wp2_with fail
  refine (n_cntrl _).mono ?_
  rintro e w11 ⟨rfl, hb11⟩
  replace hb11 : Below (w10.heap.size + 1) _ w11 := hb11.mono (by simp)
  have hz11 : w10.heap.size + 1 ≤ w11.heap.size := by have := hb11.size; simp at this; omega
  clear n_cntrl
  go_wp2_with fail
  refine (n_xdigit _).mono ?_
  rintro e w12 ⟨rfl, hb12⟩
  replace hb12 : Below (w11.heap.size + 1) _ w12 := hb12.mono (by simp)
  have hz12 : w11.heap.size + 1 ≤ w12.heap.size := by have := hb12.size; simp at this; omega
  clear n_xdigit
  go_wp2_with fail
  generalize hE : w12.alloc _ = wE
  have D12 : Below (w12.heap.size + 1) (w12.alloc (.cells #[.int .u64 (word k_xdigit 0), .int .u64 (word k_xdigit 1), .int .u64 (word k_xdigit 2), .int .u64 (word k_xdigit 3)] 27)) wE := by rw [← hE]; exact Below.refl _ _
  have D11 := kept_step hb12 hz12 D12
  have D10 := kept_step hb11 hz11 D11
  have D9 := kept_step hb10 hz10 D10
  have D8 := kept_step hb9 hz9 D9
  have D7 := kept_step hb8 hz8 D8
  have D6 := kept_step hb7 hz7 D7
  have D5 := kept_step hb6 hz6 D6
  have D4 := kept_step hb5 hz5 D5
  have D3 := kept_step hb4 hz4 D4
  have D2 := kept_step hb3 hz3 D3
  have D1 := kept_step hb2 hz2 D2
  have S1 := setAt_below (setAt_made w1 k_alpha) D1 (by omega)
  have z1 := setAt_lt S1
  have l1_0 := fun (L : Later wE) => (setAt_below S1 L.ok z1).cell 0 (by decide)
  have l1_1 := fun (L : Later wE) => (setAt_below S1 L.ok z1).cell 1 (by decide)
  have l1_2 := fun (L : Later wE) => (setAt_below S1 L.ok z1).cell 2 (by decide)
  have l1_3 := fun (L : Later wE) => (setAt_below S1 L.ok z1).cell 3 (by decide)
  have S2 := setAt_below (setAt_made w2 k_upper) D2 (by omega)
  have z2 := setAt_lt S2
  have l2_0 := fun (L : Later wE) => (setAt_below S2 L.ok z2).cell 0 (by decide)
  have l2_1 := fun (L : Later wE) => (setAt_below S2 L.ok z2).cell 1 (by decide)
  have l2_2 := fun (L : Later wE) => (setAt_below S2 L.ok z2).cell 2 (by decide)
  have l2_3 := fun (L : Later wE) => (setAt_below S2 L.ok z2).cell 3 (by decide)
  have S3 := setAt_below (setAt_made w3 k_lower) D3 (by omega)
  have z3 := setAt_lt S3
  have l3_0 := fun (L : Later wE) => (setAt_below S3 L.ok z3).cell 0 (by decide)
  have l3_1 := fun (L : Later wE) => (setAt_below S3 L.ok z3).cell 1 (by decide)
  have l3_2 := fun (L : Later wE) => (setAt_below S3 L.ok z3).cell 2 (by decide)
  have l3_3 := fun (L : Later wE) => (setAt_below S3 L.ok z3).cell 3 (by decide)
  have S4 := setAt_below (setAt_made w4 k_digit) D4 (by omega)
  have z4 := setAt_lt S4
  have l4_0 := fun (L : Later wE) => (setAt_below S4 L.ok z4).cell 0 (by decide)
  have l4_1 := fun (L : Later wE) => (setAt_below S4 L.ok z4).cell 1 (by decide)
  have l4_2 := fun (L : Later wE) => (setAt_below S4 L.ok z4).cell 2 (by decide)
  have l4_3 := fun (L : Later wE) => (setAt_below S4 L.ok z4).cell 3 (by decide)
  have S5 := setAt_below (setAt_made w5 k_alnum) D5 (by omega)
  have z5 := setAt_lt S5
  have l5_0 := fun (L : Later wE) => (setAt_below S5 L.ok z5).cell 0 (by decide)
  have l5_1 := fun (L : Later wE) => (setAt_below S5 L.ok z5).cell 1 (by decide)
  have l5_2 := fun (L : Later wE) => (setAt_below S5 L.ok z5).cell 2 (by decide)
  have l5_3 := fun (L : Later wE) => (setAt_below S5 L.ok z5).cell 3 (by decide)
  have S6 := setAt_below (setAt_made w6 k_punct) D6 (by omega)
  have z6 := setAt_lt S6
  have l6_0 := fun (L : Later wE) => (setAt_below S6 L.ok z6).cell 0 (by decide)
  have l6_1 := fun (L : Later wE) => (setAt_below S6 L.ok z6).cell 1 (by decide)
  have l6_2 := fun (L : Later wE) => (setAt_below S6 L.ok z6).cell 2 (by decide)
  have l6_3 := fun (L : Later wE) => (setAt_below S6 L.ok z6).cell 3 (by decide)
  have S7 := setAt_below (setAt_made w7 k_graph) D7 (by omega)
  have z7 := setAt_lt S7
  have l7_0 := fun (L : Later wE) => (setAt_below S7 L.ok z7).cell 0 (by decide)
  have l7_1 := fun (L : Later wE) => (setAt_below S7 L.ok z7).cell 1 (by decide)
  have l7_2 := fun (L : Later wE) => (setAt_below S7 L.ok z7).cell 2 (by decide)
  have l7_3 := fun (L : Later wE) => (setAt_below S7 L.ok z7).cell 3 (by decide)
  have S8 := setAt_below (setAt_made w8 k_print) D8 (by omega)
  have z8 := setAt_lt S8
  have l8_0 := fun (L : Later wE) => (setAt_below S8 L.ok z8).cell 0 (by decide)
  have l8_1 := fun (L : Later wE) => (setAt_below S8 L.ok z8).cell 1 (by decide)
  have l8_2 := fun (L : Later wE) => (setAt_below S8 L.ok z8).cell 2 (by decide)
  have l8_3 := fun (L : Later wE) => (setAt_below S8 L.ok z8).cell 3 (by decide)
  have S9 := setAt_below (setAt_made w9 k_blank) D9 (by omega)
  have z9 := setAt_lt S9
  have l9_0 := fun (L : Later wE) => (setAt_below S9 L.ok z9).cell 0 (by decide)
  have l9_1 := fun (L : Later wE) => (setAt_below S9 L.ok z9).cell 1 (by decide)
  have l9_2 := fun (L : Later wE) => (setAt_below S9 L.ok z9).cell 2 (by decide)
  have l9_3 := fun (L : Later wE) => (setAt_below S9 L.ok z9).cell 3 (by decide)
  have S10 := setAt_below (setAt_made w10 k_space) D10 (by omega)
  have z10 := setAt_lt S10
  have l10_0 := fun (L : Later wE) => (setAt_below S10 L.ok z10).cell 0 (by decide)
  have l10_1 := fun (L : Later wE) => (setAt_below S10 L.ok z10).cell 1 (by decide)
  have l10_2 := fun (L : Later wE) => (setAt_below S10 L.ok z10).cell 2 (by decide)
  have l10_3 := fun (L : Later wE) => (setAt_below S10 L.ok z10).cell 3 (by decide)
  have S11 := setAt_below (setAt_made w11 k_cntrl) D11 (by omega)
  have z11 := setAt_lt S11
  have l11_0 := fun (L : Later wE) => (setAt_below S11 L.ok z11).cell 0 (by decide)
  have l11_1 := fun (L : Later wE) => (setAt_below S11 L.ok z11).cell 1 (by decide)
  have l11_2 := fun (L : Later wE) => (setAt_below S11 L.ok z11).cell 2 (by decide)
  have l11_3 := fun (L : Later wE) => (setAt_below S11 L.ok z11).cell 3 (by decide)
  have S12 := setAt_below (setAt_made w12 k_xdigit) D12 (by omega)
  have z12 := setAt_lt S12
  have l12_0 := fun (L : Later wE) => (setAt_below S12 L.ok z12).cell 0 (by decide)
  have l12_1 := fun (L : Later wE) => (setAt_below S12 L.ok z12).cell 1 (by decide)
  have l12_2 := fun (L : Later wE) => (setAt_below S12 L.ok z12).cell 2 (by decide)
  have l12_3 := fun (L : Later wE) => (setAt_below S12 L.ok z12).cell 3 (by decide)
  have hbE : Below w.heap.size w wE := kept_step (hb0.trans (hb1.mono hb0.size)) (by have := hb0.size; have := hb1.size; omega) D1
  clear D1 S1 D2 S2 D3 S3 D4 S4 D5 S5 D6 S6 D7 S7 D8 S8 D9 S9 D10 S10 D11 S11 D12 S12 hb2 hb3 hb4 hb5 hb6 hb7 hb8 hb9 hb10 hb11 hb12 hE
  simp only [List.append]
  have hne := Later.nonempty wE
  refine wp_region_later (W0 := wE) (Below.refl _ _) (by kernel_rfl) (by as_aux_lemma => exact lexB_chunks 114 (by as_aux_lemma => kernel_rfl) (by as_aux_lemma => kernel_rfl) (by as_aux_lemma => kernel_rfl) (lex_more 6 (by as_aux_lemma => kernel_rfl) (lex_more 12 (by as_aux_lemma => kernel_rfl) (lex_more 12 (by as_aux_lemma => kernel_rfl) (lex_more 12 (by as_aux_lemma => kernel_rfl) (lex_more 12 (by as_aux_lemma => kernel_rfl) (lex_more 12 (by as_aux_lemma => kernel_rfl) (lex_more 12 (by as_aux_lemma => kernel_rfl) (lex_more 12 (by as_aux_lemma => kernel_rfl) (lex_more 12 (by as_aux_lemma => kernel_rfl) (lex_more 12 (by as_aux_lemma => kernel_rfl) lex_none))))))))))) ?_
  obtain ⟨valpha, h_alpha⟩ : ∃ x, x = k_alpha.getLsbD b := ⟨_, rfl⟩
  rw [← h_alpha] at hs_alpha e1 e2
  clear h_alpha
  obtain ⟨vupper, h_upper⟩ : ∃ x, x = k_upper.getLsbD b := ⟨_, rfl⟩
  rw [← h_upper] at hs_upper e1
  clear h_upper
  obtain ⟨vlower, h_lower⟩ : ∃ x, x = k_lower.getLsbD b := ⟨_, rfl⟩
  rw [← h_lower] at hs_lower e1
  clear h_lower
  obtain ⟨vdigit, h_digit⟩ : ∃ x, x = k_digit.getLsbD b := ⟨_, rfl⟩
  rw [← h_digit] at hs_digit e2
  clear h_digit
  obtain ⟨valnum, h_alnum⟩ : ∃ x, x = k_alnum.getLsbD b := ⟨_, rfl⟩
  rw [← h_alnum] at hs_alnum e2 e3 e4 e8
  clear h_alnum
  obtain ⟨vpunct, h_punct⟩ : ∃ x, x = k_punct.getLsbD b := ⟨_, rfl⟩
  rw [← h_punct] at hs_punct e3 e4
  clear h_punct
  obtain ⟨vgraph, h_graph⟩ : ∃ x, x = k_graph.getLsbD b := ⟨_, rfl⟩
  rw [← h_graph] at hs_graph e3 e5
  clear h_graph
  obtain ⟨vprint, h_print⟩ : ∃ x, x = k_print.getLsbD b := ⟨_, rfl⟩
  rw [← h_print] at hs_print e5 e7 e9
  clear h_print
  obtain ⟨vblank, h_blank⟩ : ∃ x, x = k_blank.getLsbD b := ⟨_, rfl⟩
  rw [← h_blank] at hs_blank e6
  clear h_blank
  obtain ⟨vspace, h_space⟩ : ∃ x, x = k_space.getLsbD b := ⟨_, rfl⟩
  rw [← h_space] at hs_space e6
  clear h_space
  obtain ⟨vcntrl, h_cntrl⟩ : ∃ x, x = k_cntrl.getLsbD b := ⟨_, rfl⟩
  rw [← h_cntrl] at hs_cntrl e7 e9
  clear h_cntrl
  obtain ⟨vxdigit, h_xdigit⟩ : ∃ x, x = k_xdigit.getLsbD b := ⟨_, rfl⟩
  rw [← h_xdigit] at hs_xdigit e8
  clear h_xdigit
  obtain ⟨v32, h32⟩ : ∃ x, x = ((b : Int) == 32) := ⟨_, rfl⟩
  rw [← h32] at e5
  replace h32 := h32.symm
  obtain ⟨v128, h128⟩ : ∃ x, x = decide ((b : Int) < 128) := ⟨_, rfl⟩
  rw [← h128] at e9
  replace h128 := h128.symm
  iterate 3 (go_big_quiet_step (exact Later.calls (hs_alpha _)))
  iterate 4 (go_big_quiet_step (exact Later.calls (hs_upper _)))
  refine quiet_cut3 84 85 86 87 (.bool (vupper || vlower)) ?_ ?_
  · as_aux_lemma =>
    cases vupper <;> (
      (repeat (go_big_quiet_step (exact Later.calls (hs_lower _))))
      refine wpQuiet_nil ?_
      exact ⟨_, _, _, rfl⟩)
  intro x84 x85 x86
  simp only [Act.put, List.setIfInBounds_toArray, List.set_cons_zero, List.set_cons_succ]
  as_aux_lemma =>
    iterate 2 (go_big_quiet_step (fail))
    iterate 3 (go_big_quiet_step (exact Later.calls (hs_alnum _)))
    iterate 4 (go_big_quiet_step (exact Later.calls (hs_alpha _)))
    refine quiet_cut3 97 98 99 100 (.bool (valpha || vdigit)) ?_ ?_
    · as_aux_lemma =>
      cases valpha <;> (
        (repeat (go_big_quiet_step (exact Later.calls (hs_digit _))))
        refine wpQuiet_nil ?_
        exact ⟨_, _, _, rfl⟩)
    intro x97 x98 x99
    simp only [Act.put, List.setIfInBounds_toArray, List.set_cons_zero, List.set_cons_succ]
    as_aux_lemma =>
      iterate 3 (go_big_quiet_step (fail))
      iterate 3 (go_big_quiet_step (exact Later.calls (hs_graph _)))
      iterate 4 (go_big_quiet_step (exact Later.calls (hs_alnum _)))
      refine quiet_cut3 111 112 113 114 (.bool (valnum || vpunct)) ?_ ?_
      · as_aux_lemma =>
        cases valnum <;> (
          (repeat (go_big_quiet_step (exact Later.calls (hs_punct _))))
          refine wpQuiet_nil ?_
          exact ⟨_, _, _, rfl⟩)
      intro x111 x112 x113
      simp only [Act.put, List.setIfInBounds_toArray, List.set_cons_zero, List.set_cons_succ]
      as_aux_lemma =>
        iterate 3 (go_big_quiet_step (fail))
        iterate 4 (go_big_quiet_step (exact Later.calls (hs_alnum _)))
        refine quiet_cut3 122 123 124 125 (.bool (valnum && vpunct)) ?_ ?_
        · as_aux_lemma =>
          cases valnum <;> (
            (repeat (go_big_quiet_step (exact Later.calls (hs_punct _))))
            refine wpQuiet_nil ?_
            exact ⟨_, _, _, rfl⟩)
        intro x122 x123 x124
        simp only [Act.put, List.setIfInBounds_toArray, List.set_cons_zero, List.set_cons_succ]
        as_aux_lemma =>
          iterate 3 (go_big_quiet_step (fail))
          iterate 3 (go_big_quiet_step (exact Later.calls (hs_print _)))
          iterate 4 (go_big_quiet_step (exact Later.calls (hs_graph _)))
          refine quiet_cut2 136 137 138 (.bool (vgraph || v32)) ?_ ?_
          · as_aux_lemma =>
            cases vgraph <;> (
              (repeat (go_big_quiet_step (fail)))
              refine wpQuiet_nil ?_
              exact ⟨_, _, rfl⟩)
          intro x136 x137
          simp only [Act.put, List.setIfInBounds_toArray, List.set_cons_zero, List.set_cons_succ]
          as_aux_lemma =>
            iterate 3 (go_big_quiet_step (fail))
            iterate 5 (go_big_quiet_step (exact Later.calls (hs_blank _)))
            refine quiet_cut3 147 148 149 150 (.bool (!vblank || vspace)) ?_ ?_
            · as_aux_lemma =>
              cases vblank <;> (
                (try simp only [Bool.not_true, Bool.not_false])
                (repeat (go_big_quiet_step (exact Later.calls (hs_space _))))
                refine wpQuiet_nil ?_
                exact ⟨_, _, _, rfl⟩)
            intro x147 x148 x149
            simp only [Act.put, List.setIfInBounds_toArray, List.set_cons_zero, List.set_cons_succ]
            as_aux_lemma =>
              iterate 2 (go_big_quiet_step (fail))
              iterate 4 (go_big_quiet_step (exact Later.calls (hs_cntrl _)))
              refine quiet_cut3 157 158 159 160 (.bool (vcntrl && vprint)) ?_ ?_
              · as_aux_lemma =>
                cases vcntrl <;> (
                  (repeat (go_big_quiet_step (exact Later.calls (hs_print _))))
                  refine wpQuiet_nil ?_
                  exact ⟨_, _, _, rfl⟩)
              intro x157 x158 x159
              simp only [Act.put, List.setIfInBounds_toArray, List.set_cons_zero, List.set_cons_succ]
              as_aux_lemma =>
                iterate 3 (go_big_quiet_step (fail))
                iterate 5 (go_big_quiet_step (exact Later.calls (hs_xdigit _)))
                refine quiet_cut3 169 170 171 172 (.bool (!vxdigit || valnum)) ?_ ?_
                · as_aux_lemma =>
                  cases vxdigit <;> (
                    (try simp only [Bool.not_true, Bool.not_false])
                    (repeat (go_big_quiet_step (exact Later.calls (hs_alnum _))))
                    refine wpQuiet_nil ?_
                    exact ⟨_, _, _, rfl⟩)
                intro x169 x170 x171
                simp only [Act.put, List.setIfInBounds_toArray, List.set_cons_zero, List.set_cons_succ]
                as_aux_lemma =>
                  iterate 2 (go_big_quiet_step (fail))
                  iterate 3 (go_big_quiet_step (fail))
                  cases v128
                  · cases vprint
                    · cases vcntrl
                      · iterate 5 (go_big_quiet_step (exact Later.calls (hs_print _)))
                        try simp only [Bool.not_true, Bool.not_false]
                        repeat (go_big_quiet_step (exact Later.calls (hs_cntrl _)))
                        refine wpQuiet_nil ?_
                        intro w' hw'
                        obtain ⟨L, rfl⟩ := hw'
                        go_wp2_with fail
                        go_ret
                        exact ⟨rfl, hbE.trans (L.ok.mono hbE.size)⟩
                      · exact absurd e9 (by decide)
                    · exact absurd e9 (by cases vcntrl <;> decide)
                  · repeat (go_big_quiet_step (fail))
                    refine wpQuiet_nil ?_
                    intro w' hw'
                    obtain ⟨L, rfl⟩ := hw'
                    go_wp2_with fail
                    go_ret
                    exact ⟨rfl, hbE.trans (L.ok.mono hbE.size)⟩
end Go.Proofs.Ytgdkopcfkoikjaa
