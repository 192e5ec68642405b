/- The walk of the document's own Runs. -/
import Derived.Test.YtgdkopcfkoikjaaDoorRefList
namespace Go.Proofs.YtgdkopcfkoikjaaDoor
open Go.RowKit

theorem info_refrun : (Tryd.prog.info? 52).map (fun i => (i.zero, i.size, i.bytes)) = some (some (.agg #[.int .u8 0, .int .u8 0]), 2, 2) := by kernel_rfl
theorem below_lt (f : Nat → Bool) (k : Nat) : ∀ x ∈ below f k, x < k := by
  intro x hx
  unfold below at hx
  exact List.mem_range.1 (List.mem_filter.1 hx).1
/-- byte k begins a run of its own -/
theorem addRun_begin (f : Nat → Bool) (k : Nat) (h : k = 0 ∨ f (k - 1) = false) : addRun (runsOf (below f k)) k = runsOf (below f k) ++ [(k, k)] := by
  rcases h with rfl | h
  · rfl
  · by_cases hk : k = 0
    · subst hk; rfl
    · obtain ⟨j, rfl⟩ : ∃ j, k = j + 1 := ⟨k - 1, by omega⟩
      have h' : f j = false := h
      rw [below_succ, if_neg (by simp [h'])]
      rcases List.eq_nil_or_concat (below f j) with h0 | ⟨l, x, hx⟩
      · rw [h0]; rfl
      · rw [List.concat_eq_append] at hx
        have hxj : x < j := below_lt f j x (by rw [hx]; simp)
        rw [hx]
        obtain ⟨pre, lo, hp⟩ := runsOf_last l x
        rw [hp]
        exact addRun_far _ _ _ _ (by omega)
/-- what the loop of Runs holds -/
def Running (w1 : World) (f : Nat → Bool) (k : Nat) (v : Value) (wr : World) : Prop :=
  wr.ownsRow w1.heap.size 52 2 v (runsOf (below f k)).length (runCells (runsOf (below f k))) ∧ Below w1.heap.size w1 wr
theorem running_same {w1 wr : World} {f : Nat → Bool} {k : Nat} {v : Value} (h : Running w1 f k v wr) (hno : f k = false) : Running w1 f (k + 1) v wr := by
  unfold Running
  rw [below_succ, if_neg (by simp [hno])]
  exact h
theorem running_new {w1 wr w' : World} {f : Nat → Bool} {k : Nat} {v v' : Value} {o : Obj} (h : Running w1 f k v wr) (hyes : f k = true) (hb : k = 0 ∨ f (k - 1) = false)
    (hown : w'.ownsRow w1.heap.size 52 2 v' ((runsOf (below f k)).length + 1) (runCells (runsOf (below f k)) ++ [u8v k, u8v k])) (hg : (wr.alloc o).grownBy w' v.ownBlock) : Running w1 f (k + 1) v' w' := by
  refine ⟨?_, (h.2.alloc h.2.size o).grown hg (by have := h.2.size; simp; omega) (fun k hk => (h.1.lt k hk).1)⟩
  rw [below_succ, if_pos hyes, runsOf_snoc, addRun_begin f k hb, List.length_append, runCells_append]
  exact hown
set_option maxHeartbeats 4000000 in
set_option maxRecDepth 20000 in
theorem refRuns_any (f : Nat → Bool) (w : World) : Calls Tryd.prog 23 #[BV f] w fun e w' => ∃ v, e = .returned v ∧ w'.ownsRow w.heap.size 52 2 v (runsOf (below f 256)).length (runCells (runsOf (below f 256))) ∧ Below w.heap.size w w' := by
  obtain ⟨i0, hi, hz0, hz1, hz2⟩ := info_parts info_refrun
  go_enter Tryd.func23, Tryd.ntmps23
  have hb1 : BAt (w.alloc (.cells (bc f) 28)) w.heap.size f := BAt.start w _ f rfl _ rfl
  have hB : Below w.heap.size w (w.alloc (.cells (bc f) 28)) := (Below.refl _ _).alloc (Nat.le_refl _) _
  have hsz : (w.alloc (.cells (bc f) 28)).heap.size = w.heap.size + 1 := by simp
  go_wp2_with fail
  generalize w.alloc (.cells (bc f) 28) = w1 at *
  have HS := Lib.hid hsz
  clear hsz
  go_loopw [3, 4] (fun v i wr => ∃ k : Nat, k ≤ 256 ∧ i = .int .i64 k ∧ Running w1 f k v wr) (fun _ i _ => 256 - (intOf i).toNat)
  case atStart => exact ⟨0, by omega, rfl, World.ownsRow_nil _ _ _ _, Below.refl _ _⟩
  case round =>
    obtain ⟨k, hk, rfl, hr⟩ := hrel
    by_cases hkl : k < 256
    · have hd : decide ((k : Int) < 256) = true := by simp; omega
      have hbr := hb1.below hr.2 (by have := HS.out; omega)
      have hc := hbr.cell k hkl
      have hlen : (runsOf (below f k)).length ≤ k := Nat.le_trans (runsOf_length _) (below_len f k)
      have hrs := hr.2.size
      have h8 : (k : Int) % 256 = k := by omega
      by_cases hf : f k = true
      · rw [hf] at hc
        by_cases hbeg : k = 0 ∨ f (k - 1) = false
        · have hstep := Lib.hid fun (w' : World) (v' : Value) (o : Obj) => running_new (w' := w') (v' := v') (o := o) hr hf hbeg
          have hown := hr.1
          generalize runsOf (below f k) = acc at hown hstep hlen
          obtain ⟨a3, c3, hv⟩ := owns_form hown
          have hprev : k = 0 ∨ (decide ((k : Int) > 0) = true ∧ wr.cell? ⟨w.heap.size, k - 1, none⟩ = some (.bool false)) := by
            rcases hbeg with h | h
            · exact .inl h
            · by_cases h0 : k = 0
              · exact .inl h0
              · exact .inr ⟨(by simp; omega), by rw [← h]; exact hbr.cell (k - 1) (by omega)⟩
          clear hbr hr hbeg
          subst hv
          rcases hprev with rfl | ⟨hgt, hp⟩
          · go_wp2_with (at_builtin; refine wpList_append_own _ rfl _ _ 46 rfl w1.heap.size 52 i0 (.agg #[.int .u8 0, .int .u8 0]) 2 2 Tryd.underlying46 hi hz0 hz1 hz2 rfl (by decide) _ _ _ rfl (hown.alloc _) ⟨wr.heap.size, 0, none⟩ 1 1 [u8v 0, u8v 0] rfl rfl ?c1 ?c2 ?c3 ?c4 ?c5 ?_)
            case c1 => exact cells_two _ _ _ _
            case c2 => intro u hu; simp at hu; subst hu; rfl
            case c3 => unfold maxLen; omega
            case c4 => omega
            case c5 => simp; omega
            intro v' w' hown2 hgrow _
            have hfin := hstep.out w' v' _ hown2 hgrow
            clear hown hown2 hgrow hstep
            go_wp2_with fail
            go_roundw
            case rel => exact ⟨1, by omega, rfl, hfin⟩
            case measure => simp [intOf]; try omega
          · obtain ⟨j, rfl⟩ : ∃ j, k = j + 1 := ⟨k - 1, by simp at hgt; omega⟩
            simp only [Nat.add_sub_cancel] at hp
            go_wp2_with (at_builtin; refine wpList_append_own _ rfl _ _ 46 rfl w1.heap.size 52 i0 (.agg #[.int .u8 0, .int .u8 0]) 2 2 Tryd.underlying46 hi hz0 hz1 hz2 rfl (by decide) _ _ _ rfl (hown.alloc _) ⟨wr.heap.size, 0, none⟩ 1 1 [u8v (j + 1), u8v (j + 1)] rfl rfl ?c1 ?c2 ?c3 ?c4 ?c5 ?_)
            case c1 => exact cells_two _ _ _ _
            case c2 => intro u hu; simp at hu; subst hu; rfl
            case c3 => unfold maxLen; omega
            case c4 => omega
            case c5 => simp; omega
            intro v' w' hown2 hgrow _
            have hfin := hstep.out w' v' _ hown2 hgrow
            clear hown hown2 hgrow hstep
            go_wp2_with fail
            go_roundw
            case rel => exact ⟨j + 1 + 1, by omega, by go_num, hfin⟩
            case measure => simp [intOf]; try omega
        · obtain ⟨j, rfl⟩ : ∃ j, k = j + 1 := ⟨k - 1, by have : k ≠ 0 := fun h => hbeg (.inl h); omega⟩
          have hfj : f j = true := by
            cases h : f j
            · exact absurd (.inr h) hbeg
            · rfl
          have hp := hbr.cell j (by omega)
          rw [hfj] at hp
          have hgt : decide (((j + 1 : Nat) : Int) > 0) = true := by simp; try omega
          have hown := hr.1
          have hlast : below f (j + 1) = below f j ++ [j] := by rw [below_succ, if_pos hfj]
          obtain ⟨pre, lo, hpre⟩ := runsOf_last (below f j) j
          rw [← hlast] at hpre
          rw [hpre] at hown hlen
          rw [List.length_append, List.length_singleton] at hown hlen
          obtain ⟨a3, c3, hv⟩ := owns_form hown
          subst hv
          obtain ⟨g3, rfl, hg3, hc3, hf3⟩ := owns_pair hown
          have hst := (hown.stored (pre.length * 2 + 1) (u8v (j + 1))).1
          have hfin : Running w1 f (j + 1 + 1) (Value.slice (some ⟨g3, 0, none⟩) (pre.length + 1) c3) (wr.setCell ⟨g3, pre.length * 2 + 1, none⟩ (u8v (j + 1))) := by
            refine ⟨?_, hr.2.setCell (p := ⟨g3, pre.length * 2 + 1, none⟩) hg3 _⟩
            rw [below_succ, if_pos hf, runsOf_snoc, hpre, addRun_adj _ _ _ _ rfl, ← runCells_set _ _ _ j, List.length_append]
            exact hst
          have HF := Lib.hid hfin
          clear hst hown hpre hr hbr hfin hlast hbeg
          go_wp2_with fail
          refine ⟨⟨j + 1 + 1, by omega, by go_num, HF.out⟩, ?_⟩
          simp [intOf]; omega
      · replace hf : f k = false := by simpa using hf
        rw [hf] at hc
        have hfin := running_same hr hf
        clear hbr hr
        go_wp2_with fail
        go_roundw
        case rel => exact ⟨k + 1, by omega, by go_num, hfin⟩
        case measure => simp [intOf]; try omega
    · have hd : decide ((k : Int) < 256) = false := by simp; omega
      obtain rfl : k = 256 := by omega
      clear hb1
      go_wp2_with fail
      go_ret
      exact ⟨_, rfl, owns_mono hr.1 (by have := HS.out; omega), hB.trans (hr.2.mono (by have := HS.out; omega))⟩
end Go.Proofs.YtgdkopcfkoikjaaDoor
