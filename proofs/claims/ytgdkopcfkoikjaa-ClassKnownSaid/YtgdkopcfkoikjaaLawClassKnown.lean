/- The walk of the law on the classes' examples. -/
import Derived.Test.YtgdkopcfkoikjaaLawClassSays
namespace Go.Proofs.Ytgdkopcfkoikjaa
open Go.RowKit

theorem whole_known : ∀ i, i < 12 → wholeOf (classOf (nameOf i)).1 = (nameOf i, true) := by
  have h : ∀ i, i < 12 → (wholeOf (classOf (nameOf i)).1 == (nameOf i, true)) = true := by decide +kernel
  intro i hi
  exact eq_of_beq (h i hi)
theorem whole_all : wholeOf (BitVec.allOnes 256) = ([], false) := by
  have h : (wholeOf (BitVec.allOnes 256) == ([], false)) = true := by decide +kernel
  exact eq_of_beq h
theorem whole_empty : wholeOf (setOf []) = ([], false) := by
  have h : (wholeOf (setOf []) == ([], false)) = true := by decide +kernel
  exact eq_of_beq h
theorem in_facts : (inNames 200 12).length = 0 ∧ (inNames 97 12).length = 6 ∧ (inNames 97 12).getD 0 [] = [97, 108, 110, 117, 109] ∧ (inNames 97 12).getD 5 [] = [120, 100, 105, 103, 105, 116] ∧ (inNames 9 12).length = 3 := by decide +kernel
theorem in_none (w : World) : Calls Try.prog 15 #[.int .u8 200] w fun e w' => ∃ a c, e = .returned (.slice a 0 c) ∧ Below w.heap.size w w' := by
  refine (in_at 200 (by decide) w).mono ?_
  rintro e w' ⟨a, c, rfl, hb, _⟩
  rw [in_facts.1]
  exact ⟨a, c, rfl, hb⟩
theorem in_three (w : World) : Calls Try.prog 15 #[.int .u8 9] w fun e w' => ∃ a c, e = .returned (.slice a 3 c) ∧ Below w.heap.size w w' := by
  refine (in_at 9 (by decide) w).mono ?_
  rintro e w' ⟨a, c, rfl, hb, _⟩
  rw [in_facts.2.2.2.2]
  exact ⟨a, c, rfl, hb⟩
theorem in_six (w : World) : Calls Try.prog 15 #[.int .u8 97] w fun e w' => ∃ g c, e = .returned (.slice (some ⟨g, 0, none⟩) 6 c) ∧ Below w.heap.size w w' ∧ 6 ≤ c ∧
    ∀ w2, Below w'.heap.size w' w2 → w2.cell? ⟨g, 0, none⟩ = some (.string ⟨#[97, 108, 110, 117, 109]⟩) ∧ w2.cell? ⟨g, 5, none⟩ = some (.string ⟨#[120, 100, 105, 103, 105, 116]⟩) := by
  refine (in_at 97 (by decide) w).mono ?_
  obtain ⟨_, f1, f2, f3, _⟩ := in_facts
  rintro e w' ⟨a, c, rfl, hb, hl⟩
  rw [f1] at hl ⊢
  obtain ⟨g, rfl, hc, _⟩ := hl w' (Below.refl _ _) 0 (by decide)
  refine ⟨g, c, rfl, hb, hc, fun w2 h2 => ?_⟩
  obtain ⟨g0, e0, _, h0⟩ := hl w2 h2 0 (by decide)
  obtain ⟨g5, e5, _, h5⟩ := hl w2 h2 5 (by decide)
  cases e0
  cases e5
  rw [f2] at h0
  rw [f3] at h5
  exact ⟨h0, h5⟩
theorem of_nil (w : World) : Calls Try.prog 14 #[.slice none 0 0] w fun e w' => e = .returned (SV (setOf [])) ∧ Below w.heap.size w w' := of_any none 0 0 [] w ⟨rfl, by simp, by decide, .inl rfl⟩
set_option maxHeartbeats 4000000 in
set_option maxRecDepth 100000 in
theorem classKnown_walk (w : World) : Calls Try.prog 3 #[] w fun e w' => e = .returned (.bool true) ∧ Below w.heap.size w w' := by
  have hz := zeroRef
  have hA1 := named_str [119, 111, 114, 100]
  rw [show classOf [119, 111, 114, 100] = (cNone, false) from rfl] at hA1
  have hA2 := named_str []
  rw [show classOf [] = (cNone, false) from rfl] at hA2
  have hA3 := named_str [65, 76, 80, 72, 65]
  rw [show classOf [65, 76, 80, 72, 65] = (cNone, false) from rfl] at hA3
  have hW1 := whole_any (BitVec.allOnes 256)
  rw [whole_all] at hW1
  have hall := all_any
  obtain ⟨SA, hSA⟩ : ∃ x, x = BitVec.allOnes 256 := ⟨_, rfl⟩
  rw [← hSA] at hW1 hall
  have hW2 := whole_any (setOf [])
  rw [whole_empty] at hW2
  have hof := of_nil
  obtain ⟨SE, hSE⟩ : ∃ x, x = setOf [] := ⟨_, rfl⟩
  rw [← hSE] at hW2 hof
  clear hSA hSE
  unfold strv at hA1 hA2 hA3 hW1 hW2
  go_enter Try.func3, Try.ntmps3
  go_wp2_with fail
  refine (awake2_any _).mono ?_
  rintro e w0 ⟨rfl, hb0⟩
  go_wp2_with fail
  refine (names_any _).mono ?_
  rintro e w1 ⟨g1, rfl, hg10, hg11, hc1, hb1⟩
  go_wp2_with fail
  refine (refNames_any _).mono ?_
  rintro e w2 ⟨g2, rfl, hg20, hg21, hc2, hb2⟩
  have hc1' : ∀ j, j < 12 → w2.cell? ⟨g1, j, none⟩ = some (strv (nameOf j)) := fun j hj => by rw [hb2.cell (p := ⟨g1, j, none⟩) hg11]; exact hc1 j hj
  have hg11' : g1 < w2.heap.size := by have := hb2.size; omega
  have B2 : Below w.heap.size w w2 := (hb0.trans (hb1.mono hb0.size)).trans (hb2.mono (Nat.le_trans hb0.size hb1.size))
  clear hc1 hb0 hb1 hb2 hg10 hg20 hg11
  go_wp2_with fail
  go_loopw [3] (fun ii wr => ∃ i : Nat, i ≤ 12 ∧ ii = .int .i64 i ∧ Below w2.heap.size w2 wr) (fun ii _ => 12 - (intOf ii).toNat)
  case atStart => exact ⟨0, by omega, rfl, Below.refl _ _⟩
  case round =>
    obtain ⟨i, hi, rfl, hbr⟩ := hrel
    by_cases hil : i < 12
    · have hd : decide ((i : Int) < 12) = true := by simp; omega
      have hi12 : (i : Int) < 12 := by omega
      have hwh := whole_known i hil
      have hok := name_class i hil
      obtain ⟨c, hc⟩ : ∃ c, c = nameOf i := ⟨_, rfl⟩
      have hn1 := named_str c
      have hn2 := refNamed_str c
      have hcA : ∀ w', Below w2.heap.size w2 w' → w'.cell? ⟨g1, i, none⟩ = some (strv c) := fun w' h => by rw [h.cell (p := ⟨g1, i, none⟩) hg11', hc]; exact hc1' i hil
      have hcB : ∀ w', Below w2.heap.size w2 w' → w'.cell? ⟨g2, i, none⟩ = some (strv c) := fun w' h => by rw [h.cell (p := ⟨g2, i, none⟩) hg21, hc]; exact hc2 i hil
      rw [← hc] at hwh hok
      obtain ⟨D, hD⟩ : ∃ D, D = (classOf c).1 := ⟨_, rfl⟩
      rw [← hD] at hwh hn1 hn2
      rw [hok] at hn1 hn2
      have hw := whole_any D
      rw [hwh] at hw
      unfold strv at hn1 hn2 hw hcA hcB
      have he := fun w => eql_refset D D w
      simp only [decide_true] at he
      have cB0 := hcB wr hbr
      clear hc hD hok hwh hc1' hc2
      go_wp2_with fail
      refine (hn1 _).mono ?_
      rintro e w3 ⟨rfl, hb3⟩
      have hx3 := setAt_made w3 D
      have b3 := (hbr.trans (hb3.mono hbr.size)).alloc (by have := hbr.size; have := hb3.size; omega) (.cells #[.int .u64 (word D 0), .int .u64 (word D 1), .int .u64 (word D 2), .int .u64 (word D 3)] 27)
      have cB1 := hcB _ b3
      go_wp2_with fail
      refine (hn2 _).mono ?_
      rintro e w4 ⟨rfl, hb4⟩
      have hx4 := setAt_below hx3 hb4 (by simp)
      have b4 := b3.trans (hb4.mono b3.size)
      obtain ⟨wY, hwY⟩ : ∃ x, x = (w4.alloc ZR).setRow w4.heap.size (bc D.getLsbD) := ⟨_, rfl⟩
      obtain ⟨hy5, hb5, hsz5⟩ := new_facts wY hwY
      have hx5 := setAt_below hx4 hb5 (setAt_lt hx4)
      have b5 := b4.trans (hb5.mono b4.size)
      have HY := Lib.hid hwY
      have s0 := hx5.cell 0 (by decide)
      have s1 := hx5.cell 1 (by decide)
      have s2 := hx5.cell 2 (by decide)
      have s3 := hx5.cell 3 (by decide)
      clear hx3 hx4 hb3 b3 hb4 b4 hwY hb5 hsz5 cB1 cB0
      go_wp2_with (first | (refine store_new wY HY.out rfl rfl rfl rfl ?_))
      refine (hw _).mono ?_
      rintro e w6 ⟨rfl, hb6⟩
      have hx6 := setAt_below hx5 hb6 (setAt_lt hx5)
      have hy6 := hy5.below hb6 hy5.lt
      have b6 := b5.trans (hb6.mono b5.size)
      have hx1 := setAt_lt hx6
      have hy1 := hy6.lt
      have x0 := fun (L : Later w6) => (setAt_below hx6 L.ok hx1).cell 0 (by decide)
      have x1 := fun (L : Later w6) => (setAt_below hx6 L.ok hx1).cell 1 (by decide)
      have x2 := fun (L : Later w6) => (setAt_below hx6 L.ok hx1).cell 2 (by decide)
      have x3 := fun (L : Later w6) => (setAt_below hx6 L.ok hx1).cell 3 (by decide)
      have nA := fun (L : Later w6) => hcA L.val (b6.trans (L.ok.mono b6.size))
      have nB := fun (L : Later w6) => hcB L.val (b6.trans (L.ok.mono b6.size))
      have yE := Lib.hid hy6
      have B6 := Lib.hid b6
      clear s0 s1 s2 s3 hx5 hy5 b5 HY hx6 hy6 hb6 b6 hcA hcB
      go_wp2_with fail
      have hne := Later.nonempty w6
      refine wp_region_later (W0 := w6) (Below.refl _ _) (by kernel_rfl) (by as_aux_lemma => kernel_rfl) ?_
      iterate 16 (go_big_quiet_step (exact Later.calls (own_any _ _)))
      go_big_quiet_want
      refine quiet_load_ref _ rfl _ rfl D.getLsbD (fun w' hw' => by obtain ⟨L, rfl⟩ := hw'; exact yE.out.below L.ok hy1) ?_
      go_big_quiet_on
      simp only [Act.put, List.setIfInBounds_toArray, List.set_cons_zero, List.set_cons_succ]
      repeat (go_big_quiet_step (fail))
      refine wpQuiet_nil ?_
      intro w' hw'
      obtain ⟨L, rfl⟩ := hw'
      go_wp2_with fail
      go_roundw
      case rel => exact ⟨i + 1, by omega, by go_num, B6.out.trans (L.ok.mono B6.out.size)⟩
      case measure => simp [intOf]; omega
    · have hd : decide ((i : Int) < 12) = false := by simp; omega
      obtain rfl : i = 12 := by omega
      have BE := B2.trans (hbr.mono B2.size)
      clear hc1' hc2 hbr B2
      go_wp2_with fail
      refine (hA1 _).mono ?_
      rintro e w3 ⟨rfl, hb3⟩
      have B3 := BE.trans (hb3.mono BE.size)
      go_wp2_with fail
      refine (hA2 _).mono ?_
      rintro e w4 ⟨rfl, hb4⟩
      have B4 := (B3.alloc B3.size _).trans (hb4.mono (by have := B3.size; simp; omega))
      go_wp2_with fail
      refine (hA3 _).mono ?_
      rintro e w5 ⟨rfl, hb5⟩
      have B5 := (B4.alloc B4.size _).trans (hb5.mono (by have := B4.size; simp; omega))
      go_wp2_with fail
      refine (hall _).mono ?_
      rintro e w6 ⟨rfl, hb6⟩
      have B6 := (B5.alloc B5.size _).trans (hb6.mono (by have := B5.size; simp; omega))
      go_wp2_with fail
      refine (hW1 _).mono ?_
      rintro e w7 ⟨rfl, hb7⟩
      have B7 := B6.trans (hb7.mono B6.size)
      go_wp2_with fail
      refine (hof _).mono ?_
      rintro e w8 ⟨rfl, hb8⟩
      have B8 := B7.trans (hb8.mono B7.size)
      go_wp2_with fail
      refine (hW2 _).mono ?_
      rintro e w9 ⟨rfl, hb9⟩
      have B9 := B8.trans (hb9.mono B8.size)
      clear BE hb3 hb4 hb5 hb6 hb7 hb8 hb9 B3 B4 B5 B6 B7 B8
      go_wp2_with fail
      refine (in_six _).mono ?_
      rintro e w10 ⟨gl, cl, rfl, hb10, hcl, hl⟩
      have B10 := B9.trans (hb10.mono B9.size)
      clear hb10 B9
      go_wp2_with fail
      refine (in_none _).mono ?_
      rintro e w11 ⟨a11, c11, rfl, hb11⟩
      obtain ⟨l0, l5⟩ := hl w11 hb11
      have B11 := B10.trans (hb11.mono B10.size)
      clear hl hb11 B10
      go_wp2_with fail
      refine (in_three _).mono ?_
      rintro e w12 ⟨a12, c12, rfl, hb12⟩
      have B12 := B11.trans (hb12.mono B11.size)
      go_wp2_with fail
      go_ret
      exact ⟨rfl, B12⟩
end Go.Proofs.Ytgdkopcfkoikjaa
