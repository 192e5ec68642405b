/- The walk of law 3's awake. -/
import Derived.Test.YtnhlopbpggdneaaDoorBlockOf
import Derived.Test.YtnhlopbpggdneaaDoorBlockFind
import Derived.Test.YtnhlopbpggdneaaDoorText
import Derived.Test.YtnhlopbpggdneaaDoorEq
import Derived.Test.YtnhlopbpggdneaaDoorEager
namespace Go.Proofs.YtnhlopbpggdneaaDoor
open Go.RowKit

theorem eql_same (s : BitVec 256) (w : World) : (Op.equalIn 10000 27 (SV s) (SV s)).run Tryd.prog w = .ok true w := by
  rw [eql_set]; simp
theorem headsRow_at {w : World} {a : Option Addr} {n cap : Nat} {M : List (BitVec 256)} (h : Calls Tryd.prog 14 #[.slice a n cap] w (ByteRow w (headsOf M))) (hlt : ∀ x ∈ headsOf M, x < 256) : Calls Tryd.prog 14 #[.slice a n cap] w (ListAt w (headsOf M)) := by
  refine h.mono ?_
  rintro e w' ⟨v, rfl, hown, hb⟩
  obtain ⟨a, c, rfl⟩ := owns_form hown
  exact ⟨a, c, rfl, hb, fun w2 h2 => bytesAt_of_owns hown hlt h2⟩
def cA : BitVec 256 := setOf [97]
theorem awake_parts : partsOf [cA] = [~~~cA, cA] ∧ (~~~cA).getLsbD 0 = true ∧ headsOf [~~~cA, cA] = [0, 97] := by decide +kernel
set_option maxHeartbeats 4000000 in
theorem awake_any (w : World) (hT : TabAt 0 Lib.deBruijn64tab w) :
    Calls Tryd.prog 8 #[] w fun e w' => e = .returned (.bool true) ∧ Below w.heap.size w w' := by
  obtain ⟨f1, f2, f3⟩ := awake_parts
  have hof := fun (a : Option Addr) (cap : Nat) (w : World) h => of_any a 1 cap [97] w h
  have e1 : setOf [97] = cA := rfl
  rw [e1] at hof
  have hOf := fun (a : Option Addr) (w : World) h1 h2 => blockOf_any a 1 1 [cA] w h1 h2
  rw [f1] at hOf
  have hHd := fun (a : Option Addr) (cap : Nat) (w : World) h1 h2 => headsRow_at (heads_any a 2 cap [~~~cA, cA] w h1 (by decide) h2) (by rw [f3]; decide)
  rw [f3] at hHd
  have hhas := has_lit (~~~cA) 0 0 rfl (by decide)
  rw [f2] at hhas
  have hlit := fun w => sets_lit w [cA] #[.int .u64 (word cA 0), .int .u64 (word cA 1), .int .u64 (word cA 2), .int .u64 (word cA 3)] rfl (by decide)
  have heq := eql_same cA
  have hstr : (toBytes [0, 97] == [0, 97]) = true := by decide
  clear f1 f2 f3 e1
  generalize ~~~cA = B at *
  generalize cA = A at *
  go_enter Tryd.func8, Tryd.ntmps8
  go_wp2_with fail
  refine (hof _ _ _ (bytes_lit w [97] #[.int .u8 97] rfl (by decide) (by decide))).mono ?_
  rintro e w1 ⟨rfl, hb1⟩
  have hn1 : Below w.heap.size w w1 := ((Below.refl _ _).alloc (Nat.le_refl _) _).trans (hb1.mono (by simp))
  have hT1 := tab_below hT hn1 (tab_pos hT)
  go_wp2_with fail
  refine (hOf _ _ (hlit w1) (tab_alloc hT1 _)).mono ?_
  rintro e w2 ⟨a, cap, rfl, hsets, hb2, hoff⟩
  have hn2 : Below w.heap.size w w2 := (hn1.alloc hn1.size _).trans (hb2.mono (by have := hn1.size; simp; omega))
  have hT2 := tab_below hT hn2 (tab_pos hT)
  obtain ⟨g, rfl, hcap, _, hg, hc⟩ := sets_open hsets hoff (by simp)
  have hc0 := hc 0 (by simp)
  have hc1 := hc 1 (by simp)
  simp only [List.getD_cons_zero, List.getD_cons_succ, List.length_cons, List.length_nil] at hc0 hc1 hcap hsets
  have hl0 : ∀ w', (∃ L : Later w2, w' = L.val) → Set4 w' g 0 B := fun w' hw' => by obtain ⟨L, rfl⟩ := hw'; exact hc0.below L.ok hg
  have hl1 : ∀ w', (∃ L : Later w2, w' = L.val) → Set4 w' g 4 A := fun w' hw' => by obtain ⟨L, rfl⟩ := hw'; exact hc1.below L.ok hg
  clear hb1 hb2 hn1 hT1 hc0 hc1 hc hoff hlit hOf
  simp at hcap
  go_wp2_with fail
  have hne := Later.nonempty w2
  refine wp_region_eager (.plain 0 (.plain 1 (.plain 2 (.plain 3 (.plain 4 (.plain 5 (.plain 6 (.sole 7 (.plain 8 (.plain 9 (.plain 10 (.plain 11 (.plain 12 (.sole 13 (.sole 14 (.plain 15 (.plain 16 (.plain 17 (.plain 18 (.sole 19 (.plain 20 (.plain 21 (.plain 22 (.plain 23 .done)))))))))))))))))))))))) (W0 := w2) (Below.refl _ _) (by kernel_rfl) (by kernel_rfl) (fun c a d v w h => by cases d <;> exact h) ?_
  have hTc := tab_drew hT2
  have hcur := (Below.refl w2.heap.size w2).drew
  repeat (first
      | (refine' eager_skip ?_ ?_ ?_
         rotate_left 1
         · simp only [List.getElem?_toArray, List.getElem?_cons_zero, List.getElem?_cons_succ]; exact rfl
         · exact rfl
         simp only [Act.put, List.setIfInBounds_toArray, List.set_cons_zero, List.set_cons_succ])
      | (refine' eager_want ?_ ?_ (fun K hK => ?_)
         rotate_left 1
         · simp only [List.getElem?_toArray, List.getElem?_cons_zero, List.getElem?_cons_succ]; exact rfl
         · exact rfl
         first
         | (refine quiet_load_set _ rfl g 0 B rfl hl0 ?_; refine hK _ ?_; clear hK K; try simp only [Act.put, List.setIfInBounds_toArray, List.set_cons_zero, List.set_cons_succ])
         | (refine quiet_load_set _ rfl g 4 A rfl hl1 ?_; refine hK _ ?_; clear hK K; try simp only [Act.put, List.setIfInBounds_toArray, List.set_cons_zero, List.set_cons_succ])
         | (go_big_quiet_op; refine hK _ ?_; clear hK K)))
  refine' eager_call ?_ ?_ (fun K hK => ?_)
  rotate_left 1
  · simp only [List.getElem?_toArray, List.getElem?_cons_zero, List.getElem?_cons_succ]; exact rfl
  · exact rfl
  go_simp
  refine (hhas _).mono ?_
  rintro e wn ⟨rfl, hb⟩
  refine hK _ _ hb ?_
  replace hTc := tab_below hTc hb (tab_pos hTc)
  replace hcur := hcur.trans (hb.mono hcur.size)
  clear hb hK K
  try simp only [Act.put, List.setIfInBounds_toArray, List.set_cons_zero, List.set_cons_succ]
  repeat (first
      | (refine' eager_skip ?_ ?_ ?_
         rotate_left 1
         · simp only [List.getElem?_toArray, List.getElem?_cons_zero, List.getElem?_cons_succ]; exact rfl
         · exact rfl
         simp only [Act.put, List.setIfInBounds_toArray, List.set_cons_zero, List.set_cons_succ])
      | (refine' eager_want ?_ ?_ (fun K hK => ?_)
         rotate_left 1
         · simp only [List.getElem?_toArray, List.getElem?_cons_zero, List.getElem?_cons_succ]; exact rfl
         · exact rfl
         first
         | (refine quiet_load_set _ rfl g 0 B rfl hl0 ?_; refine hK _ ?_; clear hK K; try simp only [Act.put, List.setIfInBounds_toArray, List.set_cons_zero, List.set_cons_succ])
         | (refine quiet_load_set _ rfl g 4 A rfl hl1 ?_; refine hK _ ?_; clear hK K; try simp only [Act.put, List.setIfInBounds_toArray, List.set_cons_zero, List.set_cons_succ])
         | (go_big_quiet_op; refine hK _ ?_; clear hK K)))
  refine' eager_call ?_ ?_ (fun K hK => ?_)
  rotate_left 1
  · simp only [List.getElem?_toArray, List.getElem?_cons_zero, List.getElem?_cons_succ]; exact rfl
  · exact rfl
  go_simp
  refine hK _ _ ((Below.refl _ _).alloc (Nat.le_refl _) _) ?_
  have B1 : BytesAt (wn.alloc (.cells #[.int .u8 97] 5)) (some ⟨wn.heap.size, 0, none⟩) 1 1 [97] := by simpa using bytes_lit wn [97] #[.int .u8 97] rfl (by decide) (by decide)
  replace hcur := hcur.alloc hcur.size (.cells #[.int .u8 97] 5)
  replace hTc := tab_alloc hTc (.cells #[.int .u8 97] 5)
  clear hK K
  try simp only [Act.put, List.setIfInBounds_toArray, List.set_cons_zero, List.set_cons_succ]
  refine' eager_call ?_ ?_ (fun K hK => ?_)
  rotate_left 1
  · simp only [List.getElem?_toArray, List.getElem?_cons_zero, List.getElem?_cons_succ]; exact rfl
  · exact rfl
  go_simp
  refine (hof _ _ _ B1).mono ?_
  rintro e wn ⟨rfl, hb⟩
  refine hK _ _ hb ?_
  replace hTc := tab_below hTc hb (tab_pos hTc)
  replace hcur := hcur.trans (hb.mono hcur.size)
  clear hb hK K
  try simp only [Act.put, List.setIfInBounds_toArray, List.set_cons_zero, List.set_cons_succ]
  repeat (first
      | (refine' eager_skip ?_ ?_ ?_
         rotate_left 1
         · simp only [List.getElem?_toArray, List.getElem?_cons_zero, List.getElem?_cons_succ]; exact rfl
         · exact rfl
         simp only [Act.put, List.setIfInBounds_toArray, List.set_cons_zero, List.set_cons_succ])
      | (refine' eager_want ?_ ?_ (fun K hK => ?_)
         rotate_left 1
         · simp only [List.getElem?_toArray, List.getElem?_cons_zero, List.getElem?_cons_succ]; exact rfl
         · exact rfl
         first
         | (refine quiet_load_set _ rfl g 0 B rfl hl0 ?_; refine hK _ ?_; clear hK K; try simp only [Act.put, List.setIfInBounds_toArray, List.set_cons_zero, List.set_cons_succ])
         | (refine quiet_load_set _ rfl g 4 A rfl hl1 ?_; refine hK _ ?_; clear hK K; try simp only [Act.put, List.setIfInBounds_toArray, List.set_cons_zero, List.set_cons_succ])
         | (go_big_quiet_op; refine hK _ ?_; clear hK K)))
  refine' eager_call_new ?_ ?_ (fun K hK => ?_)
  rotate_left 1
  · simp only [List.getElem?_toArray, List.getElem?_cons_zero, List.getElem?_cons_succ]; exact rfl
  · exact rfl
  go_simp
  refine (hHd _ _ _ (hsets.below hcur rfl) hTc).mono ?_
  rintro e wn ⟨la, lcap, rfl, hb, hlist⟩
  refine hK _ _ hb ?_
  replace hTc := tab_below hTc hb (tab_pos hTc)
  replace hcur := hcur.trans (hb.mono hcur.size)
  have hne' := Later.nonempty wn
  have hbs : ∀ w', (∃ L : Later wn, w' = L.val) → BytesAt w' la 2 lcap [0, 97] := fun w' hw' => by obtain ⟨L, rfl⟩ := hw'; exact hlist L.val L.ok
  clear hb hK K
  try simp only [Act.put, List.setIfInBounds_toArray, List.set_cons_zero, List.set_cons_succ]
  refine' eager_want ?_ ?_ (fun K hK => ?_)
  rotate_left 1
  · simp only [List.getElem?_toArray, List.getElem?_cons_zero, List.getElem?_cons_succ]; exact rfl
  · exact rfl
  refine quiet_string _ rfl _ _ _ rfl [0, 97] hbs ?_
  refine hK _ ?_
  clear hK K
  try simp only [Act.put, List.setIfInBounds_toArray, List.set_cons_zero, List.set_cons_succ]
  repeat (first
      | (refine' eager_skip ?_ ?_ ?_
         rotate_left 1
         · simp only [List.getElem?_toArray, List.getElem?_cons_zero, List.getElem?_cons_succ]; exact rfl
         · exact rfl
         simp only [Act.put, List.setIfInBounds_toArray, List.set_cons_zero, List.set_cons_succ])
      | (refine' eager_want ?_ ?_ (fun K hK => ?_)
         rotate_left 1
         · simp only [List.getElem?_toArray, List.getElem?_cons_zero, List.getElem?_cons_succ]; exact rfl
         · exact rfl
         first
         | (refine quiet_load_set _ rfl g 0 B rfl hl0 ?_; refine hK _ ?_; clear hK K; try simp only [Act.put, List.setIfInBounds_toArray, List.set_cons_zero, List.set_cons_succ])
         | (refine quiet_load_set _ rfl g 4 A rfl hl1 ?_; refine hK _ ?_; clear hK K; try simp only [Act.put, List.setIfInBounds_toArray, List.set_cons_zero, List.set_cons_succ])
         | (go_big_quiet_op; refine hK _ ?_; clear hK K)))
  refine eager_done ?_
  go_wp2_with fail
  go_ret
  exact ⟨rfl, hn2.trans (hcur.mono hn2.size)⟩
end Go.Proofs.YtnhlopbpggdneaaDoor
