/- rank.best, rank.Best, walked for every list of values whose lengths don't wrap. -/
import Derived.Test.YtkekdfelcfoilaaRankCmp
import Derived.Test.YtkekdfelcfoilaaRankOrd
namespace Go.Proofs.Ytkekdfelcfoilaa
namespace V
set_option maxRecDepth 100000
open Go.RowKit
set_option maxHeartbeats 16000000 in
theorem best_walk : ∀ (n : Nat) (l : List Vl) (v : Value) (w : World), l.length ≤ n → 0 < l.length → (∀ x ∈ l, Small x) → ListAt w l v →
    Calls Try.prog 19 #[v] w fun e w' => ∃ i : Nat, e = .returned (.int .i64 i) ∧ Best l i ∧ Below w.heap.size w w'
  | 0, l, _, _, h, h0, _, _ => by omega
  | n + 1, l, v, w, hn, h0, hs, hl => by
    have hl0 := hl
    obtain ⟨a1, c1, rfl, hmax1, hl1⟩ := hl
    obtain ⟨n1, hn1⟩ : ∃ n1, n1 = l.length := ⟨_, rfl⟩
    rw [← hn1] at hl1 hl0 hmax1 hn h0 ⊢
    have hi1 : (n1 : Int) ≤ 9223372036854775807 := by unfold maxLen at hmax1; omega
    have hcap : n1 ≤ c1 ∨ n1 = 0 := by rcases hl1 with h | ⟨_, _, _, h, _⟩ <;> omega
    by_cases hone : n1 = 1
    · subst hone
      obtain ⟨x, rfl⟩ : ∃ x, l = [x] := by
        cases l with
        | nil => simp at hn1
        | cons x l => cases l with
          | nil => exact ⟨x, rfl⟩
          | cons y l => simp at hn1
      clear hl1 hl0 hmax1 hn h0 hs hi1 hcap hn1
      go_enter Try.func19, Try.ntmps19
      go_wp2_with fail
      go_ret
      exact ⟨0, rfl, best_one x, Below.refl _ _⟩
    · have e1 : ((n1 : Int) == 1) = false := by simp; omega
      obtain ⟨hf, hhf⟩ : ∃ hf, hf = n1 / 2 := ⟨_, rfl⟩
      have hq : Int.tdiv (n1 : Int) 2 = (hf : Int) := by rw [Int.tdiv_eq_ediv_of_nonneg (by omega)]; omega
      have hq2 : (n1 : Int) / 2 = (hf : Int) := by omega
      obtain ⟨r1, hr1, hd1⟩ := vals_take (a := a1) (cap := c1) (n := n1) (i := hf) (by omega) hcap
      obtain ⟨r2, hr2, hd2⟩ := vals_drop (a := a1) (cap := c1) (n := n1) (i := hf) (by omega) hcap
      have Hih1 := Lib.hid (fun (w' : World) (h : KeptR w.heap.size w w') => best_walk n (l.take hf) r1 w' (by rw [List.length_take]; omega) (by rw [List.length_take]; omega) (fun x hx => hs x (List.mem_of_mem_take hx)) (hd1 w' l hn1.symm (hl0.below (h.below (Nat.le_refl _) (Nat.le_refl _)))))
      have Hih2 := Lib.hid (fun (w' : World) (h : KeptR w.heap.size w w') => best_walk n (l.drop hf) r2 w' (by rw [List.length_drop]; omega) (by rw [List.length_drop]; omega) (fun x hx => hs x (List.mem_of_mem_drop hx)) (hd2 w' l hn1.symm (hl0.below (h.below (Nat.le_refl _) (Nat.le_refl _)))))
      have HN : Hid (l.length = n1 ∧ hf ≤ n1 ∧ (n1 : Int) ≤ 9223372036854775807) := Lib.hid ⟨hn1.symm, by omega, hi1⟩
      have Hl := Lib.hid hl1
      have Hs := Lib.hid hs
      clear hl1 hl0 hmax1 hn h0 hs hcap hn1 hd1 hd2 hone hhf
      go_enter Try.func19, Try.ntmps19
      go_upto_region 4 with fail
      obtain ⟨wd, hwd⟩ : ∃ wd, wd = w.drew := ⟨_, rfl⟩
      have hBd : Below w.heap.size w wd := by rw [hwd]; exact (Below.refl _ _).drew
      have hKd : KeptR w.heap.size w wd := KeptR.of_below hBd
      have hNE : Nonempty (HeldW (KeptR w.heap.size w)) := ⟨⟨wd, hKd⟩⟩
      refine wp_region_hold (KeptR w.heap.size w) (.plain 0 (.plain 1 (.plain 2 (.plain 4 (.plain 5 (.plain 6 (.plain 7 (.sole 3 (.sole 8 (.plain 9 (.plain 10 (.plain 11 .done)))))))))))) (by rw [← hwd]; exact hKd) (by kernel_rfl) (by kernel_rfl) (fun c a d v w h => by cases d <;> exact h) ?_
      rw [← hwd]
      clear hwd
      repeat (first
          | (refine' hold_skip ?_ ?_ ?_
             rotate_left 1
             · simp only [List.getElem?_toArray, List.getElem?_cons_zero, List.getElem?_cons_succ]; exact rfl
             · exact rfl
             simp only [Act.put, List.setIfInBounds_toArray, List.set_cons_zero, List.set_cons_succ])
          | (refine' hold_want ?_ ?_ (fun J hJ => ?_)
             rotate_left 1
             · simp only [List.getElem?_toArray, List.getElem?_cons_zero, List.getElem?_cons_succ]; exact rfl
             · exact rfl
             first
             | (refine quiet_slice_vhi _ _ rfl _ _ _ rfl rfl hr1 ?_; refine hJ _ ?_; clear hJ J; try simp only [Act.put, List.setIfInBounds_toArray, List.set_cons_zero, List.set_cons_succ])
             | (refine quiet_slice_vlo _ _ rfl _ _ _ rfl rfl hr2 ?_; refine hJ _ ?_; clear hJ J; try simp only [Act.put, List.setIfInBounds_toArray, List.set_cons_zero, List.set_cons_succ])
             | (refine quiet_extract _ _ rfl _ _ rfl rfl ?_; refine hJ _ ?_; clear hJ J; try simp only [Act.put, List.setIfInBounds_toArray, List.set_cons_zero, List.set_cons_succ])
             | (go_big_quiet_op; refine hJ _ ?_; clear hJ J; try simp only [Act.put, List.setIfInBounds_toArray, List.set_cons_zero, List.set_cons_succ])))
      refine' hold_sole ?_ ?_ (fun J hJ => ?_)
      rotate_left 1
      · simp only [List.getElem?_toArray, List.getElem?_cons_zero, List.getElem?_cons_succ]; exact rfl
      · exact rfl
      go_simp
      refine (Hih1.out _ hKd).mono ?_
      rintro e w21 ⟨i1, rfl, hB1, hb21⟩
      have hK21 : KeptR w.heap.size w w21 := hKd.trans (KeptR.of_below hb21)
      refine hJ _ _ hK21 ?_
      clear hJ J hb21
      try simp only [Act.put, List.setIfInBounds_toArray, List.set_cons_zero, List.set_cons_succ]
      refine' hold_sole ?_ ?_ (fun J hJ => ?_)
      rotate_left 1
      · simp only [List.getElem?_toArray, List.getElem?_cons_zero, List.getElem?_cons_succ]; exact rfl
      · exact rfl
      go_simp
      refine (Hih2.out _ hK21).mono ?_
      rintro e w22 ⟨i2, rfl, hB2, hb22⟩
      have hK22 : KeptR w.heap.size w w22 := hK21.trans (KeptR.of_below hb22)
      refine hJ _ _ hK22 ?_
      clear hJ J hb22
      try simp only [Act.put, List.setIfInBounds_toArray, List.set_cons_zero, List.set_cons_succ]
      repeat (first
          | (refine' hold_skip ?_ ?_ ?_
             rotate_left 1
             · simp only [List.getElem?_toArray, List.getElem?_cons_zero, List.getElem?_cons_succ]; exact rfl
             · exact rfl
             simp only [Act.put, List.setIfInBounds_toArray, List.set_cons_zero, List.set_cons_succ])
          | (refine' hold_want ?_ ?_ (fun J hJ => ?_)
             rotate_left 1
             · simp only [List.getElem?_toArray, List.getElem?_cons_zero, List.getElem?_cons_succ]; exact rfl
             · exact rfl
             first
             | (refine quiet_slice_vhi _ _ rfl _ _ _ rfl rfl hr1 ?_; refine hJ _ ?_; clear hJ J; try simp only [Act.put, List.setIfInBounds_toArray, List.set_cons_zero, List.set_cons_succ])
             | (refine quiet_slice_vlo _ _ rfl _ _ _ rfl rfl hr2 ?_; refine hJ _ ?_; clear hJ J; try simp only [Act.put, List.setIfInBounds_toArray, List.set_cons_zero, List.set_cons_succ])
             | (refine quiet_extract _ _ rfl _ _ rfl rfl ?_; refine hJ _ ?_; clear hJ J; try simp only [Act.put, List.setIfInBounds_toArray, List.set_cons_zero, List.set_cons_succ])
             | (go_big_quiet_op; refine hJ _ ?_; clear hJ J; try simp only [Act.put, List.setIfInBounds_toArray, List.set_cons_zero, List.set_cons_succ])))
      refine hold_done ?_
      obtain ⟨w7, rfl⟩ : ∃ w7, w7 = w22 := ⟨_, rfl⟩
      have H7 := Lib.hid hK22
      have hbi1 := best_lt hB1
      have hbi2 := best_lt hB2
      rw [List.length_take] at hbi1
      rw [List.length_drop] at hbi2
      have hln := HN.out
      obtain ⟨jj, hjj⟩ : ∃ jj, jj = hf + i2 := ⟨_, rfl⟩
      have hadd : wrap64 ((hf : Int) + (i2 : Int)) = (jj : Int) := by unfold wrap64; omega
      rw [hadd]
      clear hadd hq hq2
      have hjn : jj < n1 := by omega
      have hin : i1 < n1 := by omega
      have hjl : jj < l.length := by omega
      have hil : i1 < l.length := by omega
      have hd1 : decide ((jj : Int) < n1) = true := by simp; omega
      have hd2 : decide ((i1 : Int) < n1) = true := by simp; omega
      obtain ⟨b1, off1, rfl, hcap1, hbw1, hnodes1⟩ := Hl.out.resolve_left (by omega)
      have hcapI1 : (n1 : Int) ≤ c1 := by omega
      obtain ⟨ds1, hcell1, hat1⟩ := vals_get _ b1 l off1 hnodes1 jj hjl
      obtain ⟨ds2, hcell2, hat2⟩ := vals_get _ b1 l off1 hnodes1 i1 hil
      have HV1 := Lib.hid (fun (w' : World) (h : KeptR w.heap.size w7 w') => Val3.below hcell1 hbw1 ((H7.out.trans h).below (Nat.le_refl _) (Nat.le_refl _)))
      have HV2 := Lib.hid (fun (w' : World) (h : KeptR w.heap.size w7 w') => Val3.below hcell2 hbw1 ((H7.out.trans h).below (Nat.le_refl _) (Nat.le_refl _)))
      have HC := Lib.hid (fun (w' : World) (h : KeptR w.heap.size w7 w') => rank_cmp l[jj] l[i1] ds1 ds2 w' (Vl.at_below ((H7.out.trans h).below (Nat.le_refl _) (Nat.le_refl _)) (Nat.le_refl _) _ _ hat1) (Vl.at_below ((H7.out.trans h).below (Nat.le_refl _) (Nat.le_refl _)) (Nat.le_refl _) _ _ hat2))
      have hgy : l[hf + i2]? = some l[jj] := by rw [← hjj]; exact List.getElem?_eq_getElem hjl
      have HBest := Lib.hid (best_join Hs.out hB1 hB2 (List.getElem?_eq_getElem hil) hgy)
      clear hgy
      generalize ord l[jj] l[i1] = o2 at HC HBest
      have HJJ := Lib.hid hjj
      clear hcell1 hcell2 hat1 hat2 hnodes1 hbw1 hcap1 hjl hil hB1 hB2 hbi1 hbi2 hln hjj
      go_upto_region 5 with fail
      obtain ⟨wd, hwd⟩ : ∃ wd, wd = w7.drew := ⟨_, rfl⟩
      have hBd : Below w7.heap.size w7 wd := by rw [hwd]; exact (Below.refl _ _).drew
      have hKd : KeptR w.heap.size w7 wd := KeptR.of_below hBd
      have hNE : Nonempty (HeldW (KeptR w.heap.size w7)) := ⟨⟨wd, hKd⟩⟩
      refine wp_region_hold (KeptR w.heap.size w7) (.plain 0 (.plain 1 (.plain 2 (.plain 3 (.plain 4 (.plain 5 (.plain 6 (.plain 7 (.sole 8 (.plain 9 .done)))))))))) (by rw [← hwd]; exact hKd) (by kernel_rfl) (by kernel_rfl) (fun c a d v w h => by cases d <;> exact h) ?_
      rw [← hwd]
      clear hwd
      repeat (first
          | (refine' hold_skip ?_ ?_ ?_
             rotate_left 1
             · simp only [List.getElem?_toArray, List.getElem?_cons_zero, List.getElem?_cons_succ]; exact rfl
             · exact rfl
             simp only [Act.put, List.setIfInBounds_toArray, List.set_cons_zero, List.set_cons_succ])
          | (refine' hold_want ?_ ?_ (fun J hJ => ?_)
             rotate_left 1
             · simp only [List.getElem?_toArray, List.getElem?_cons_zero, List.getElem?_cons_succ]; exact rfl
             · exact rfl
             first
             | (refine quiet_load_val _ rfl b1 (off1 + jj * 3) ds1 rfl (fun w' ⟨L, hL⟩ => hL ▸ HV1.out _ L.ok) ?_; refine hJ _ ?_; clear hJ J; try simp only [Act.put, List.setIfInBounds_toArray, List.set_cons_zero, List.set_cons_succ])
             | (refine quiet_load_val _ rfl b1 (off1 + i1 * 3) ds2 rfl (fun w' ⟨L, hL⟩ => hL ▸ HV2.out _ L.ok) ?_; refine hJ _ ?_; clear hJ J; try simp only [Act.put, List.setIfInBounds_toArray, List.set_cons_zero, List.set_cons_succ])
             | (refine quiet_extract _ _ rfl _ _ rfl rfl ?_; refine hJ _ ?_; clear hJ J; try simp only [Act.put, List.setIfInBounds_toArray, List.set_cons_zero, List.set_cons_succ])
             | (go_big_quiet_op; refine hJ _ ?_; clear hJ J; try simp only [Act.put, List.setIfInBounds_toArray, List.set_cons_zero, List.set_cons_succ])))
      refine' hold_sole ?_ ?_ (fun J hJ => ?_)
      rotate_left 1
      · simp only [List.getElem?_toArray, List.getElem?_cons_zero, List.getElem?_cons_succ]; exact rfl
      · exact rfl
      go_simp
      refine (HC.out _ hKd).mono ?_
      rintro e w23 ⟨rfl, hb23⟩
      have hK23 : KeptR w.heap.size w7 w23 := hKd.trans (KeptR.of_below hb23)
      refine hJ _ _ hK23 ?_
      clear hJ J hb23
      try simp only [Act.put, List.setIfInBounds_toArray, List.set_cons_zero, List.set_cons_succ]
      repeat (first
          | (refine' hold_skip ?_ ?_ ?_
             rotate_left 1
             · simp only [List.getElem?_toArray, List.getElem?_cons_zero, List.getElem?_cons_succ]; exact rfl
             · exact rfl
             simp only [Act.put, List.setIfInBounds_toArray, List.set_cons_zero, List.set_cons_succ])
          | (refine' hold_want ?_ ?_ (fun J hJ => ?_)
             rotate_left 1
             · simp only [List.getElem?_toArray, List.getElem?_cons_zero, List.getElem?_cons_succ]; exact rfl
             · exact rfl
             first
             | (refine quiet_load_val _ rfl b1 (off1 + jj * 3) ds1 rfl (fun w' ⟨L, hL⟩ => hL ▸ HV1.out _ L.ok) ?_; refine hJ _ ?_; clear hJ J; try simp only [Act.put, List.setIfInBounds_toArray, List.set_cons_zero, List.set_cons_succ])
             | (refine quiet_load_val _ rfl b1 (off1 + i1 * 3) ds2 rfl (fun w' ⟨L, hL⟩ => hL ▸ HV2.out _ L.ok) ?_; refine hJ _ ?_; clear hJ J; try simp only [Act.put, List.setIfInBounds_toArray, List.set_cons_zero, List.set_cons_succ])
             | (refine quiet_extract _ _ rfl _ _ rfl rfl ?_; refine hJ _ ?_; clear hJ J; try simp only [Act.put, List.setIfInBounds_toArray, List.set_cons_zero, List.set_cons_succ])
             | (go_big_quiet_op; refine hJ _ ?_; clear hJ J; try simp only [Act.put, List.setIfInBounds_toArray, List.set_cons_zero, List.set_cons_succ])))
      refine hold_done ?_
      have HF := Lib.hid (H7.out.trans hK23)
      by_cases ho : o2 < 0
      · have hdo : decide (o2 < 0) = true := by simp; omega
        have Ho := Lib.hid ho
        rw [hdo]
        clear ho hdo
        go_wp2_with fail
        go_ret
        refine ⟨jj, rfl, ?_, HF.out.below (Nat.le_refl _) (Nat.le_refl _)⟩
        have h := HBest.out
        rw [if_pos Ho.out, ← HJJ.out] at h
        exact h
      · have hdo : decide (o2 < 0) = false := by simp; omega
        have Ho := Lib.hid ho
        rw [hdo]
        clear ho hdo
        go_wp2_with fail
        go_ret
        refine ⟨i1, rfl, ?_, HF.out.below (Nat.le_refl _) (Nat.le_refl _)⟩
        have h := HBest.out
        rw [if_neg (by have := Ho.out; omega)] at h
        exact h
set_option maxHeartbeats 4000000 in
theorem best_empty (w : World) (a : Option Addr) (c : Nat) : Calls Try.prog 13 #[.slice a 0 c] w fun e w' => e = .returned (.tuple #[.int .i64 0, .bool false]) ∧ Below w.heap.size w w' := by
  go_enter Try.func13, Try.ntmps13
  go_wp2_with fail
  go_ret2
  exact ⟨rfl, Below.refl _ _⟩
set_option maxHeartbeats 4000000 in
theorem best_some {l : List Vl} {v : Value} {w : World} (h0 : 0 < l.length) (hs : ∀ x ∈ l, Small x) (hl : ListAt w l v) : Calls Try.prog 13 #[v] w fun e w' => ∃ i : Nat, e = .returned (.tuple #[.int .i64 i, .bool true]) ∧ Best l i ∧ Below w.heap.size w w' := by
  have hcall := best_walk l.length l v w (Nat.le_refl _) h0 hs hl
  obtain ⟨a1, c1, rfl, hmax1, _⟩ := hl
  have e1 : ((l.length : Int) == 0) = false := by simp; intro h; rw [h] at h0; simp at h0
  generalize l.length = n1 at *
  clear hs h0 hmax1
  go_enter Try.func13, Try.ntmps13
  go_wp2_with fail
  refine hcall.mono ?_
  rintro e w1 ⟨i, rfl, hB, hb⟩
  have HB := Lib.hid (And.intro hB hb)
  clear hB hb hcall
  go_wp2_with fail
  go_ret2
  exact ⟨i, rfl, HB.out⟩
end V
end Go.Proofs.Ytkekdfelcfoilaa
