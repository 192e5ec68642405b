/- The walks of the document's own Names and Whole, and of the layer's own. -/
import Derived.Test.YtgdkopcfkoikjaaRefNamed
namespace Go.Proofs.Ytgdkopcfkoikjaa
open Go.RowKit

theorem refNames_any (w : World) : Calls Try.prog 8 #[] w (NamesRow w) := by
  go_enter Try.func8, Try.ntmps8
  go_wp2
  go_ret
  exact ⟨w.heap.size, rfl, Nat.le_refl _, by simp, fun j hj => strs_new w nameBytes rfl _ rfl j hj, (Below.refl _ _).alloc (Nat.le_refl _) _⟩
theorem refNamed_str (l : List UInt8) (w : World) : Calls Try.prog 10 #[strv l] w fun e w' => e = .returned (.tuple #[BV (classOf l).1.getLsbD, .bool (classOf l).2]) ∧ Below w.heap.size w w' := by
  have := refNamed_any ⟨l.toArray⟩ w
  rw [ByteArray.toList_mk] at this
  exact this
theorem info_bool : (Try.prog.info? 4).map (fun i => (i.zero, i.size, i.bytes)) = some (some (.bool false), 1, 1) := by kernel_rfl
theorem agg_bool (w : World) : (isAgg 4).run Try.prog w = .ok false w := by kernel_rfl
theorem eql_ref (f g : Nat → Bool) (w : World) : (Op.equalIn 10000 31 (BV f) (BV g)).run Try.prog w = .ok ((List.range 256).all fun i => f i == g i) w := by
  obtain ⟨i0, hi, hz0, hz1, hz2⟩ := info_parts info_bool
  have hc : Try.prog.cellsOf 4 = 1 := by kernel_rfl
  rw [show (10000 : Nat) = 9999 + 1 from rfl, run_equalIn_array w 9999 _ _ Try.underlying31 hi, hc]
  exact run_eqItems (agg_bool w) (fun i => .bool (f i)) (fun i => .bool (g i)) (fun i => f i == g i) (List.range 256) (fun i hi => bc_get f i (List.mem_range.1 hi)) (fun i hi => bc_get g i (List.mem_range.1 hi)) (fun _ _ => run_equalIn_bool _ 9998 _ _ _ Try.underlying4)
theorem eql_refset (s t : BitVec 256) (w : World) : (Op.equalIn 10000 31 (BV s.getLsbD) (BV t.getLsbD)).run Try.prog w = .ok (decide (s = t)) w := by
  rw [eql_ref]
  congr 1
  rw [Bool.eq_iff_iff, List.all_eq_true, decide_eq_true_eq]
  constructor
  · intro h
    apply BitVec.eq_of_getLsbD_eq
    intro i hi
    have := h i (List.mem_range.2 hi)
    simpa using this
  · rintro rfl i _; simp
theorem own_any (s : BitVec 256) (w : World) : Calls Try.prog 12 #[SV s] w fun e w' => e = .returned (BV s.getLsbD) ∧ Below w.heap.size w w' := by
  have hz := zeroRef
  go_enter Try.func12, Try.ntmps12
  go_wp2_with fail
  refine (from_any s _).mono ?_
  rintro e w1 ⟨rfl, hb1⟩
  have hR : BAt w1 (w.heap.size + 1) bNone := (BAt.start (w.alloc _) _ _ rfl _ (by simp)).below hb1 (by simp)
  have hB : Below w.heap.size w w1 := (((Below.refl _ _).alloc (Nat.le_refl _) _).alloc (by simp) _).trans (hb1.mono (by simp; omega))
  go_wp2_with (first | (refine wpList_store_row rfl 31 _ _ rfl (w.heap.size + 1) _ rfl rfl _ _ hR (infoRef' _) (by rw [bc_size, bc_size]) (bc_one _) ?_))
  refine bodyPost_ret (v := BV s.getLsbD) (results_cell_row Try.results12 _ _ (w.heap.size + 1) _ _ _ _ rfl (BAt.rowSame hR) Try.underlying31 rfl (infoRef' _)) rfl ⟨rfl, below_row hB (by omega) _⟩
set_option maxHeartbeats 2000000 in
theorem refWhole_any (s : BitVec 256) (w : World) : Calls Try.prog 16 #[BV s.getLsbD] w fun e w' => e = .returned (.tuple #[strv (wholeOf s).1, .bool (wholeOf s).2]) ∧ Below w.heap.size w w' := by
  have hz := zeroRef
  go_enter Try.func16, Try.ntmps16
  go_wp2_with fail
  refine (refNames_any _).mono ?_
  rintro e w1 ⟨g, rfl, hg0, hg1, hcells, hb1⟩
  simp at hg0
  have hb1' : Below w.heap.size w w1 := ((Below.refl _ _).alloc (Nat.le_refl _) _).trans (hb1.mono (by simp))
  have hS1 : BAt w1 w.heap.size s.getLsbD := (BAt.start w _ _ rfl _ rfl).below hb1 (by simp)
  clear hb1
  go_wp2_with fail
  go_loopw [5] (fun i wr => ∃ k : Nat, k ≤ 12 ∧ i = .int .i64 k ∧ (∀ j, j < k → (classOf (nameOf j)).1 ≠ s) ∧ Below w1.heap.size w1 wr) (fun i _ => 12 - (intOf i).toNat)
  case atStart => exact ⟨0, by omega, rfl, fun j hj => by omega, Below.refl _ _⟩
  case round =>
    obtain ⟨k, hk, rfl, hne, hbr⟩ := hrel
    by_cases hkl : k < 12
    · have hd : decide ((k : Int) < 12) = true := by simp; omega
      have hcell : wr.cell? ⟨g, k, none⟩ = some (strv (nameOf k)) := by rw [hbr.cell (p := ⟨g, k, none⟩) hg1]; exact hcells k hkl
      obtain ⟨n, hn⟩ : ∃ n, n = nameOf k := ⟨_, rfl⟩
      have hok := name_class k hkl
      rw [← hn] at hcell hok
      have hnm := refNamed_str n
      rw [hok] at hnm
      obtain ⟨C, hC⟩ : ∃ C, C = (classOf n).1 := ⟨_, rfl⟩
      rw [← hC] at hnm
      have he := eql_refset C s
      have hzr := hbr.size
      have hSr := hS1.below hbr hS1.lt
      have hcellF : ∀ w', Below wr.heap.size wr w' → w'.cell? ⟨g, k, none⟩ = some (.string ⟨n.toArray⟩) := fun w' h => by rw [h.cell (p := ⟨g, k, none⟩) (by show g < wr.heap.size; omega)]; exact hcell
      unfold strv at hcell hnm
      have hC' : C = (classOf (nameOf k)).1 := by rw [hC, hn]
      have Hn := Lib.hid hn
      have HC := Lib.hid hC'
      have Hne := Lib.hid hne
      clear hn hC hC' hok hcells hne hS1
      go_wp2_with fail
      refine (hnm _).mono ?_
      rintro e w2 ⟨rfl, hb2⟩
      have hb3 := hbr.trans (hb2.mono hbr.size)
      have hS2 := hSr.below hb2 hSr.lt
      have hZ := BAt.start w2 ZR _ rfl _ rfl
      have hX : BAt ((w2.alloc ZR).setRow w2.heap.size (bc C.getLsbD)) w2.heap.size C.getLsbD := BAt.rowSame hZ
      have hS3 : BAt ((w2.alloc ZR).setRow w2.heap.size (bc C.getLsbD)) w.heap.size s.getLsbD := (hS2.alloc ZR).row _ _ (Nat.ne_of_lt hS2.lt)
      have hbX : Below w1.heap.size w1 ((w2.alloc ZR).setRow w2.heap.size (bc C.getLsbD)) := below_row (hb3.alloc hb3.size _) hb3.size _
      have hcX := hcellF _ (below_row (hb2.alloc hb2.size ZR) hb2.size (bc C.getLsbD))
      have hXl := hX.lt
      obtain ⟨wX, hwX⟩ : ∃ x, x = (w2.alloc ZR).setRow w2.heap.size (bc C.getLsbD) := ⟨_, rfl⟩
      rw [← hwX] at hX hS3 hbX hcX hXl
      have hst : ∀ (ops : Array Oper) (rest : List Oper) (Q : Exit → Act → World → Prop) (o : Oper) (a : Act) (x y : Operand), o.guard = none → o.op = .store 31 x y → a.eval x = .pointer (some ⟨w2.heap.size, 0, none⟩) → a.eval y = .agg (bc C.getLsbD) →
          wpList Try.prog ops Q rest (a.put o.dst undef) wX → wpList Try.prog ops Q (o :: rest) a (w2.alloc ZR) := by
        intro ops rest Q o a x y h1 h2 h3 h4 h5
        rw [hwX] at h5
        exact wpList_store_row h1 _ _ _ h2 w2.heap.size _ h3 h4 _ _ hZ (infoRef' _) (by rw [bc_size, bc_size]) (bc_one _) h5
      clear hwX hcell
      by_cases hCs : C = s
      · have hdec : decide (C = s) = true := by simpa using hCs
        rw [hdec] at he
        have hHit := Lib.hid (wholeOf_hit s k hkl Hne.out (by rw [← HC.out]; exact hCs))
        clear hCs
        go_wp2_with (first
          | (refine hst _ _ _ _ _ _ _ rfl rfl rfl rfl ?_)
          | (refine wpList_load_row rfl 31 _ rfl w2.heap.size rfl _ _ _ _ hX Try.underlying31 rfl (infoRef' _) ?_)
          | (refine wpList_load_row rfl 31 _ rfl w.heap.size rfl _ _ _ _ hS3 Try.underlying31 rfl (infoRef' _) ?_))
        go_ret2
        rw [hHit.out, ← Hn.out]
        exact ⟨rfl, hb1'.trans (hbX.mono (by omega))⟩
      · have hdec : decide (C = s) = false := by simpa using hCs
        rw [hdec] at he
        go_wp2_with (first
          | (refine hst _ _ _ _ _ _ _ rfl rfl rfl rfl ?_)
          | (refine wpList_load_row rfl 31 _ rfl w2.heap.size rfl _ _ _ _ hX Try.underlying31 rfl (infoRef' _) ?_)
          | (refine wpList_load_row rfl 31 _ rfl w.heap.size rfl _ _ _ _ hS3 Try.underlying31 rfl (infoRef' _) ?_))
        go_roundw
        case rel => exact ⟨k + 1, by omega, by go_num, fun j hj => (by
          by_cases hjk : j < k
          · exact Hne.out j hjk
          · obtain rfl : j = k := by omega
            rw [← HC.out]; exact hCs), hbX⟩
        case measure => simp [intOf]; omega
    · have hd : decide ((k : Int) < 12) = false := by simp; omega
      obtain rfl : k = 12 := by omega
      have hMiss := Lib.hid (wholeOf_miss s hne)
      clear hne hcells
      go_wp2_with fail
      go_ret2
      rw [hMiss.out]
      exact ⟨rfl, hb1'.trans (hbr.mono (by omega))⟩
end Go.Proofs.Ytgdkopcfkoikjaa
