/- The walk of the law 'just as the chapter says' on classes. -/
import Derived.Test.YtgdkopcfkoikjaaRefWhole
import Derived.Test.YtgdkopcfkoikjaaClassAwake
import Derived.Deep.QuietTactic
namespace Go.Proofs.Ytgdkopcfkoikjaa
open Go.RowKit

theorem inNames_prefix (b i : Nat) (hi : i ≤ 12) : inNames b i <+: inNames b 12 := by
  unfold inNames
  have h : nameBytes.take i <+: nameBytes.take 12 := List.take_prefix_take_left (l := nameBytes) hi
  exact h.filter _
theorem inNames_at (b i : Nat) (hi : i < 12) (h : (classOf (nameOf i)).1.getLsbD b = true) : (inNames b i).length < (inNames b 12).length ∧ (inNames b 12).getD (inNames b i).length [] = nameOf i := by
  obtain ⟨t, ht⟩ := inNames_prefix b (i + 1) (by omega)
  rw [inNames_succ b i hi, if_pos h] at ht
  rw [← ht]
  simp
/-- new strings, as whoever reads them wants them told -/
def InAt (w : World) (l : List (List UInt8)) (e : Ending) (w' : World) : Prop :=
  ∃ a cap, e = .returned (.slice a l.length cap) ∧ Below w.heap.size w w' ∧
    ∀ w2, Below w'.heap.size w' w2 → ∀ j, j < l.length → ∃ g, a = some ⟨g, 0, none⟩ ∧ l.length ≤ cap ∧ w2.cell? ⟨g, j, none⟩ = some (strv (l.getD j []))
theorem in_at (b : Nat) (hb256 : b < 256) (w : World) : Calls Try.prog 15 #[.int .u8 b] w (InAt w (inNames b 12)) := by
  refine (in_any b hb256 w).mono ?_
  rintro e w' ⟨v, rfl, hown, hb⟩
  obtain ⟨a, c, rfl⟩ := owns_form hown
  refine ⟨a, c, rfl, hb, fun w2 h2 j hj => ?_⟩
  have hown2 := owns_below hown h2
  have hrow := hown2.2
  rcases hrow with ⟨hv, h0⟩ | ⟨g, cap, cur, hv, hg, hblk, hnc, _⟩
  · omega
  · cases hv
    refine ⟨g, rfl, hnc, ?_⟩
    rw [hown2.cellAt j (by omega), List.getElem?_map, List.getElem?_eq_getElem hj, List.getD_eq_getElem?_getD, List.getElem?_eq_getElem hj]
    rfl
theorem store_new {w : World} {F : Nat → Bool} {ops : Array Oper} {rest : List Oper} {Q : Exit → Act → World → Prop} {o : Oper} {a : Act} {x y : Operand} (wX : World) (hX : wX = (w.alloc ZR).setRow w.heap.size (bc F)) (h1 : o.guard = none) (h2 : o.op = .store 31 x y)
    (h3 : a.eval x = .pointer (some ⟨w.heap.size, 0, none⟩)) (h4 : a.eval y = .agg (bc F)) (h5 : wpList Try.prog ops Q rest (a.put o.dst undef) wX) : wpList Try.prog ops Q (o :: rest) a (w.alloc ZR) := by
  subst hX
  exact wpList_store_row h1 _ _ _ h2 w.heap.size _ h3 h4 _ _ (BAt.start w ZR _ rfl _ rfl) (infoRef' _) (by rw [bc_size, bc_size]) (bc_one _) h5
theorem new_facts {w : World} {F : Nat → Bool} (wX : World) (hX : wX = (w.alloc ZR).setRow w.heap.size (bc F)) : BAt wX w.heap.size F ∧ Below w.heap.size w wX ∧ wX.heap.size = w.heap.size + 1 := by
  subst hX
  exact ⟨BAt.rowSame (BAt.start w ZR _ rfl _ rfl), below_row ((Below.refl _ _).alloc (Nat.le_refl _) _) (Nat.le_refl _) _, by simp⟩
theorem setAt_below {B : Nat} {w w' : World} {b : Nat} {s : BitVec 256} (h : SetAt w b s) (hb : Below B w w') (hlt : b < B) : SetAt w' b s := by
  unfold SetAt at *
  rw [hb.block b hlt]; exact h
theorem setAt_made (w : World) (s : BitVec 256) : SetAt (w.alloc (.cells #[.int .u64 (word s 0), .int .u64 (word s 1), .int .u64 (word s 2), .int .u64 (word s 3)] 27)) w.heap.size s := by
  unfold SetAt World.alloc
  simp
set_option maxHeartbeats 4000000 in
set_option maxRecDepth 100000 in
theorem classSays_walk (n : ByteArray) (s : BitVec 256) (b : Nat) (hb256 : b < 256) (w : World) : Calls Try.prog 4 #[.string n, SV s, .int .u8 b] w fun e w' => e = .returned (.bool true) ∧ Below w.heap.size w w' := by
  have hz := zeroRef
  have hN := named_any n
  have hM := refNamed_any n
  obtain ⟨X, hX⟩ : ∃ X, X = (classOf n.toList).1 := ⟨_, rfl⟩
  obtain ⟨ok, hok⟩ : ∃ ok, ok = (classOf n.toList).2 := ⟨_, rfl⟩
  rw [← hX, ← hok] at hN hM
  clear hX hok
  have hWh := whole_any s
  have hRW := refWhole_any s
  obtain ⟨nm, hnm⟩ : ∃ l, l = (wholeOf s).1 := ⟨_, rfl⟩
  obtain ⟨is, his⟩ : ∃ is, is = (wholeOf s).2 := ⟨_, rfl⟩
  rw [← hnm, ← his] at hWh hRW
  clear hnm his
  unfold strv at hWh hRW
  go_enter Try.func4, Try.ntmps4
  go_wp2_with fail
  refine (awake2_any _).mono ?_
  rintro e w0 ⟨rfl, hb0⟩
  have hS0 := setAt_below (setAt_made w s) hb0 (by simp)
  have B0 : Below w.heap.size w w0 := ((Below.refl _ _).alloc (Nat.le_refl _) _).trans (hb0.mono (by simp))
  clear hb0
  go_wp2_with fail
  refine (hN _).mono ?_
  rintro e w1 ⟨rfl, hb1⟩
  have hS1 := setAt_below hS0 hb1 (setAt_lt hS0)
  have B1 := B0.trans (hb1.mono B0.size)
  clear hb1 hS0 B0
  go_wp2_with fail
  refine (hM _).mono ?_
  rintro e w2 ⟨rfl, hb2⟩
  have hx2 := setAt_below (setAt_made w1 X) hb2 (by simp)
  have hS2 := setAt_below (setAt_alloc hS1 _) hb2 (by have := setAt_lt hS1; simp; omega)
  have B2 := (B1.alloc B1.size _).trans (hb2.mono (by have := B1.size; simp; omega))
  clear hb2 hS1 B1
  obtain ⟨wY, hwY⟩ : ∃ x, x = (w2.alloc ZR).setRow w2.heap.size (bc X.getLsbD) := ⟨_, rfl⟩
  obtain ⟨hy3, hb3, hsz3⟩ := new_facts wY hwY
  have hx3 := setAt_below hx2 hb3 (setAt_lt hx2)
  have hS3 := setAt_below hS2 hb3 (setAt_lt hS2)
  have B3 := B2.trans (hb3.mono B2.size)
  have HY := Lib.hid hwY
  have s0 := hS3.cell 0 (by decide)
  have s1 := hS3.cell 1 (by decide)
  have s2 := hS3.cell 2 (by decide)
  have s3 := hS3.cell 3 (by decide)
  clear hx2 hS2 hwY hb3 hsz3 B2
  go_wp2_with (first | (refine store_new wY HY.out rfl rfl rfl rfl ?_))
  refine (hWh _).mono ?_
  rintro e w3 ⟨rfl, hb3⟩
  have hx4 := setAt_below hx3 hb3 (setAt_lt hx3)
  have hS4 := setAt_below hS3 hb3 (setAt_lt hS3)
  have hy4 := hy3.below hb3 hy3.lt
  have B4 := B3.trans (hb3.mono B3.size)
  clear s0 s1 s2 s3 hx3 hS3 hy3 B3 hb3 HY
  have s0 := hS4.cell 0 (by decide)
  have s1 := hS4.cell 1 (by decide)
  have s2 := hS4.cell 2 (by decide)
  have s3 := hS4.cell 3 (by decide)
  go_wp2_with fail
  refine (own_any s _).mono ?_
  rintro e w4 ⟨rfl, hb4⟩
  go_wp2_with fail
  refine (hRW _).mono ?_
  rintro e w5 ⟨rfl, hb5⟩
  go_wp2_with fail
  refine (in_at b hb256 _).mono ?_
  rintro e w6 ⟨la, lc, rfl, hb6, hl⟩
  go_wp2_with fail
  refine (refNames_any _).mono ?_
  rintro e w7 ⟨g, rfl, hg0, hg1, hcells, hb7⟩
  have hb37 : Below w3.heap.size w3 w7 := ((hb4.trans (hb5.mono hb4.size)).trans (hb6.mono (Nat.le_trans hb4.size hb5.size))).trans (hb7.mono (Nat.le_trans (Nat.le_trans hb4.size hb5.size) hb6.size))
  have hx7 := setAt_below hx4 hb37 (setAt_lt hx4)
  have hy7 := hy4.below hb37 hy4.lt
  have B7 := B4.trans (hb37.mono B4.size)
  have hl7 := fun w2 (h : Below w7.heap.size w7 w2) => hl w2 (hb7.trans (h.mono hb7.size))
  have hlen := inNames_len b 12
  obtain ⟨L, hL⟩ : ∃ L, L = (inNames b 12).length := ⟨_, rfl⟩
  clear s0 s1 s2 s3 hx4 hS4 hy4 B4 hb4 hb5 hb6 hb7 hb37 hl
  rw [← hL] at hlen
  have HL := Lib.hid hL
  clear hL
  rw [← HL.out]
  go_wp2_with fail
  go_loopw [16, 18] (fun kk ii wr => ∃ i : Nat, i ≤ 12 ∧ ii = .int .i64 i ∧ kk = .int .i64 ((inNames b i).length : Nat) ∧ Below w7.heap.size w7 wr) (fun _ ii _ => 12 - (intOf ii).toNat)
  case atStart => exact ⟨0, by omega, rfl, rfl, Below.refl _ _⟩
  case round =>
    obtain ⟨i, hi, rfl, rfl, hbr⟩ := hrel
    by_cases hil : i < 12
    · have hd : decide ((i : Int) < 12) = true := by simp; omega
      have hcell : wr.cell? ⟨g, i, none⟩ = some (strv (nameOf i)) := by rw [hbr.cell (p := ⟨g, i, none⟩) hg1]; exact hcells i hil
      have hsucc := inNames_succ b i hil
      have hat := inNames_at b i hil
      rw [← HL.out] at hat
      obtain ⟨c, hc⟩ : ∃ c, c = nameOf i := ⟨_, rfl⟩
      have hnc := refNamed_str c
      rw [← hc] at hcell hsucc hat
      obtain ⟨D, hD⟩ : ∃ D, D = (classOf c).1 := ⟨_, rfl⟩
      obtain ⟨dk, hdk⟩ : ∃ dk, dk = (classOf c).2 := ⟨_, rfl⟩
      rw [← hD] at hsucc hat
      rw [← hD, ← hdk] at hnc
      have hcF : ∀ w', Below wr.heap.size wr w' → w'.cell? ⟨g, i, none⟩ = some (.string ⟨c.toArray⟩) := fun w' h => by rw [h.cell (p := ⟨g, i, none⟩) (by have := hbr.size; show g < wr.heap.size; omega)]; exact hcell
      have hzr := hbr.size
      unfold strv at hcell hnc
      have HC := Lib.hid hc
      have Hsucc := Lib.hid hsucc
      clear hc hD hdk hcells hsucc
      go_wp2_with fail
      refine (hnc _).mono ?_
      rintro e w8 ⟨rfl, hb8⟩
      obtain ⟨wX, hwX⟩ : ∃ x, x = (w8.alloc ZR).setRow w8.heap.size (bc D.getLsbD) := ⟨_, rfl⟩
      obtain ⟨hx8, hb9, hsz8⟩ := new_facts wX hwX
      have hb89 := hb8.trans (hb9.mono hb8.size)
      have hbX : Below w7.heap.size w7 wX := hbr.trans (hb89.mono hzr)
      have HX := Lib.hid hwX
      have hcX := hcF wX hb89
      have hbit := hx8.cell b hb256
      clear hwX hb8 hb9 hb89 hcell hcF hnc
      by_cases hDb : D.getLsbD b = true
      · obtain ⟨hat1, hat2⟩ := hat hDb
        obtain ⟨gl, rfl, hcap, hlc⟩ := hl7 wX hbX (inNames b i).length (by rw [← HL.out]; exact hat1)
        rw [hat2] at hlc
        have hS := Hsucc.out
        rw [if_pos hDb] at hS
        have hS' : (inNames b (i + 1)).length = (inNames b i).length + 1 := by rw [hS]; simp
        have HS := Lib.hid hS'
        rw [hDb] at hbit
        obtain ⟨K, hK⟩ : ∃ K, K = (inNames b i).length := ⟨_, rfl⟩
        rw [← hK] at HS hat1 hlc
        rw [← HL.out] at hcap
        have HK := Lib.hid hK
        rw [← HK.out]
        have hge : decide ((L : Int) ≤ K) = false := by simp; omega
        have hi12 : (i : Int) < 12 := by omega
        clear hS hS' hat hat2 hK hl7 hDb Hsucc
        unfold strv at hlc
        go_wp2_with (first | (refine store_new wX HX.out rfl rfl rfl rfl ?_))
        go_quiet (fail)
        go_wp2_with fail
        go_roundw
        case rel => exact ⟨i + 1, by omega, by go_num, by rw [HS.out]; go_num, below_drewN hbX _⟩
        case measure => simp [intOf]; omega
      · have hS := Hsucc.out
        rw [if_neg hDb] at hS
        replace hDb : D.getLsbD b = false := by simpa using hDb
        have HS := Lib.hid hS
        rw [hDb] at hbit
        clear hS hat hl7 hDb Hsucc
        go_wp2_with (first | (refine store_new wX HX.out rfl rfl rfl rfl ?_))
        go_roundw
        case rel => exact ⟨i + 1, by omega, by go_num, by rw [HS.out], hbX⟩
        case measure => simp [intOf]; omega
    · have hd : decide ((i : Int) < 12) = false := by simp; omega
      obtain rfl : i = 12 := by omega
      rw [← HL.out]
      have hxE := setAt_below hx7 hbr (setAt_lt hx7)
      have hyE := hy7.below hbr hy7.lt
      have BE := B7.trans (hbr.mono B7.size)
      have hx1 := setAt_lt hxE
      have hy1 := hyE.lt
      have x0 := fun (L : Later wr) => (setAt_below hxE L.ok hx1).cell 0 (by decide)
      have x1 := fun (L : Later wr) => (setAt_below hxE L.ok hx1).cell 1 (by decide)
      have x2 := fun (L : Later wr) => (setAt_below hxE L.ok hx1).cell 2 (by decide)
      have x3 := fun (L : Later wr) => (setAt_below hxE L.ok hx1).cell 3 (by decide)
      have yE := Lib.hid hyE
      have he := fun w => eql_refset X X w
      simp only [decide_true] at he
      clear hcells hl7 hx7 hy7 hxE hyE hbr B7
      go_wp2_with fail
      have hne := Later.nonempty wr
      refine wp_region_later (W0 := wr) (Below.refl _ _) (by kernel_rfl) (by as_aux_lemma => kernel_rfl) ?_
      iterate 2 (go_big_quiet_step (exact Later.calls (own_any _ _)))
      go_big_quiet_want
      refine quiet_load_ref _ rfl _ rfl X.getLsbD (fun w' hw' => by obtain ⟨L, rfl⟩ := hw'; exact yE.out.below L.ok hy1) ?_
      go_big_quiet_on
      simp only [Act.put, List.setIfInBounds_toArray, List.set_cons_zero, List.set_cons_succ]
      repeat (go_big_quiet_step (fail))
      refine wpQuiet_nil ?_
      intro w' hw'
      obtain ⟨L, rfl⟩ := hw'
      go_wp2_with fail
      go_ret
      exact ⟨rfl, BE.trans (L.ok.mono BE.size)⟩
end Go.Proofs.Ytgdkopcfkoikjaa
