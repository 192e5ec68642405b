/- The walk of law 9's LangParts. -/
import Derived.Test.YtobhjfhmhhahoaaLangAwake
import Derived.Test.YtobhjfhmhhahoaaCoreBig
import Derived.Test.YtobhjfhmhhahoaaCoreParts
namespace Go.Proofs.Ytobhjfhmhhahoaa
open K
set_option maxRecDepth 100000
open Go.RowKit
set_option maxHeartbeats 16000000 in
theorem langParts_walk (x : Cr) (cs : List Value) (y : Cr) (ds : List Value) (a : Option Addr) (n cap : Nat) (l : List Nat) (w : World) (hx : Cr.at w x cs) (hy : Cr.at w y ds) (hl : BytesAt w a n cap l) :
    Calls Try.prog 4 #[.agg cs.toArray, .agg ds.toArray, .slice a n cap] w fun e w' => e = .returned (.bool true) ∧ Below w.heap.size w w' := by
  have hn := hl.1
  have hlt := hl.2.1
  have hmx := hl.2.2.1
  unfold maxLen at hmx
  have hx0 := hx
  have hy0 := hy
  obtain ⟨ka, sa, na, aa, lena, capa, rfl⟩ := K.at_lit hx
  obtain ⟨kb, sb, nb, ab, lenb, capb, rfl⟩ := K.at_lit hy
  obtain ⟨W, hW⟩ : ∃ W, W = (w.alloc (.cells #[.int .i64 ka, .int .u64 (word sa 0), .int .u64 (word sa 1), .int .u64 (word sa 2), .int .u64 (word sa 3), .int .i64 na, .slice aa lena capa] 28)).alloc (.cells #[.int .i64 kb, .int .u64 (word sb 0), .int .u64 (word sb 1), .int .u64 (word sb 2), .int .u64 (word sb 3), .int .i64 nb, .slice ab lenb capb] 28) := ⟨_, rfl⟩
  have hal : Below w.heap.size w W := by rw [hW]; exact two_below' _ _ _
  have hca : CoreIn W w.heap.size #[.int .i64 ka, .int .u64 (word sa 0), .int .u64 (word sa 1), .int .u64 (word sa 2), .int .u64 (word sa 3), .int .i64 na, .slice aa lena capa] := by rw [hW]; exact (Below.heap_alloc _ _ _ (by simp)).trans (World.alloc_heap_new w _)
  have hcb : CoreIn W (w.heap.size + 1) #[.int .i64 kb, .int .u64 (word sb 0), .int .u64 (word sb 1), .int .u64 (word sb 2), .int .u64 (word sb 3), .int .i64 nb, .slice ab lenb capb] := by
    have h := World.alloc_heap_new (w.alloc (.cells #[.int .i64 ka, .int .u64 (word sa 0), .int .u64 (word sa 1), .int .u64 (word sa 2), .int .u64 (word sa 3), .int .i64 na, .slice aa lena capa] 28)) (.cells #[.int .i64 kb, .int .u64 (word sb 0), .int .u64 (word sb 1), .int .u64 (word sb 2), .int .u64 (word sb 3), .int .i64 nb, .slice ab lenb capb] 28)
    rw [World.size_alloc] at h
    rw [hW]; exact h
  obtain ⟨C, hC⟩ : ∃ C : World → Prop, C = fun w' => Below W.heap.size W w' := ⟨_, rfl⟩
  have hCX : ∀ w', C w' → Below W.heap.size W w' := by rw [hC]; exact fun w' h => h
  have hC0 : C W := by rw [hC]; exact Below.refl _ _
  have hCw : ∀ w' w2, C w' → Below w'.heap.size w' w2 → C w2 := by rw [hC]; exact fun w' w2 h hb => h.trans (hb.mono h.size)
  have Hcd := Lib.hid (show ∀ w', C w' → C w'.drew by rw [hC]; exact fun w' h => h.drew)
  have hup : ∀ w', C w' → Below w.heap.size w w' := fun w' h => hal.trans ((hCX w' h).mono hal.size)
  have h7a : ∀ w', (∃ L : HeldW C, w' = L.val) → Core7 w' w.heap.size 0 [.int .i64 ka, .int .u64 (word sa 0), .int .u64 (word sa 1), .int .u64 (word sa 2), .int .u64 (word sa 3), .int .i64 na, .slice aa lena capa] := fun w' h => by
    obtain ⟨L, rfl⟩ := h
    exact core7_in (core_later (hCX _ L.ok) hca) rfl
  have h7b : ∀ w', (∃ L : HeldW C, w' = L.val) → Core7 w' (w.heap.size + 1) 0 [.int .i64 kb, .int .u64 (word sb 0), .int .u64 (word sb 1), .int .u64 (word sb 2), .int .u64 (word sb 3), .int .i64 nb, .slice ab lenb capb] := fun w' h => by
    obtain ⟨L, rfl⟩ := h
    exact core7_in (core_later (hCX _ L.ok) hcb) rfl
  have hne : Nonempty (HeldW C) := HeldW.nonempty hC0
  have HA := Lib.hid (fun (w' : World) (h : C w') => Cr.at_below (hup w' h) (Nat.le_refl _) _ _ hx0)
  have HB := Lib.hid (fun (w' : World) (h : C w') => Cr.at_below (hup w' h) (Nat.le_refl _) _ _ hy0)
  have HL := Lib.hid (fun (w' : World) (h : C w') => bytes_keep hl (hup w' h))
  have Hup := Lib.hid hup
  have Hcw := Lib.hid hCw
  have HC := Lib.hid hC0
  have Hn := Lib.hid hn
  have Hlt := Lib.hid hlt
  have Hl0 := Lib.hid hl
  clear hC hCX hC0 hCw hup hal hca hcb hx0 hy0 hx hy hl hn hlt
  go_enter Try.func4, Try.ntmps4
  go_upto_region 1 with fail
  rw [← hW]
  clear hW
  go_wp2_with fail
  refine (awake9_walk _).mono ?_
  rintro e w1 ⟨rfl, hb⟩
  have HC := Lib.hid (Hcw.out _ _ HC.out hb)
  clear hb
  go_upto_region 3 with fail
  have Hbiga := Lib.hid (fun (w' : World) (h : C w') => big_any 60 x _ w' (by decide) (HA.out w' h))
  have Hbigb := Lib.hid (fun (w' : World) (h : C w') => big_any 60 y _ w' (by decide) (HB.out w' h))
  have Hsza := Lib.hid (fun (w' : World) (h : C w') => K.size_walk (HA.out w' h))
  have Hszb := Lib.hid (fun (w' : World) (h : C w') => K.size_walk (HB.out w' h))
  generalize bigN 60 x = ba at *
  generalize bigN 60 y = bb at *

  cases ba
  case true =>
    refine wp_region_hold C (.plain 0 (.sole 1 (.plain 2 (.plain 3 (.sole 4 (.plain 5 (.plain 6 (.plain 7 (.plain 8 (.plain 9 (.plain 10 (.plain 11 (.plain 12 (.plain 13 (.sole 14 (.sole 15 (.plain 16 (.plain 17 (.plain 18 (.plain 19 (.plain 21 (.sole 20 (.sole 22 (.plain 23 (.plain 24 (.plain 25 .done)))))))))))))))))))))))))) (Hcd.out _ HC.out) (by kernel_rfl) (by kernel_rfl) (fun c a d v w h => by cases d <;> exact h) ?_
    have HC := Lib.hid (Hcd.out _ HC.out)
    obtain ⟨wdr, hwdr⟩ : ∃ x, x = w1.drew := ⟨_, rfl⟩
    rw [← hwdr] at HC ⊢
    clear hwdr
    repeat (first
        | (refine' hold_skip ?_ ?_ ?_
           rotate_left 1
           · simp only [List.getElem?_toArray, List.getElem?_cons_zero]; exact rfl
           · exact rfl
           simp only [Act.put, List.setIfInBounds_toArray, List.set_cons_zero, List.set_cons_succ])
        | (refine' hold_want ?_ ?_ (fun K hK => ?_)
           rotate_left 1
           · simp only [List.getElem?_toArray, List.getElem?_cons_zero]; exact rfl
           · exact rfl
           first
           | (refine quiet_load_core _ rfl w.heap.size 0 _ rfl h7a ?_; refine hK _ ?_; clear hK K; try simp only [Act.put, List.setIfInBounds_toArray, List.set_cons_zero, List.set_cons_succ])
           | (refine quiet_load_core _ rfl (w.heap.size + 1) 0 _ rfl h7b ?_; refine hK _ ?_; clear hK K; try simp only [Act.put, List.setIfInBounds_toArray, List.set_cons_zero, List.set_cons_succ])
           | (go_big_quiet_op; refine hK _ ?_; clear hK K)))
    refine' hold_sole ?_ ?_ (fun K hK => ?_)
    rotate_left 1
    · simp only [List.getElem?_toArray, List.getElem?_cons_zero, List.getElem?_cons_succ]; exact rfl
    · exact rfl
    go_simp
    refine (Hbiga.out _ HC.out).mono ?_
    rintro e wa ⟨rfl, hb⟩
    refine hK _ _ (Hcw.out _ _ HC.out hb) ?_
    have HC := Lib.hid (Hcw.out _ _ HC.out hb)
    clear hb
    clear hK K
    try simp only [Act.put, List.setIfInBounds_toArray, List.set_cons_zero, List.set_cons_succ]
    repeat (first
        | (refine' hold_skip ?_ ?_ ?_
           rotate_left 1
           · simp only [List.getElem?_toArray, List.getElem?_cons_zero, List.getElem?_cons_succ]; exact rfl
           · exact rfl
           simp only [Act.put, List.setIfInBounds_toArray, List.set_cons_zero, List.set_cons_succ])
        | (refine' hold_want ?_ ?_ (fun K hK => ?_)
           rotate_left 1
           · simp only [List.getElem?_toArray, List.getElem?_cons_zero, List.getElem?_cons_succ]; exact rfl
           · exact rfl
           first
           | (refine quiet_load_core _ rfl w.heap.size 0 _ rfl h7a ?_; refine hK _ ?_; clear hK K; try simp only [Act.put, List.setIfInBounds_toArray, List.set_cons_zero, List.set_cons_succ])
           | (refine quiet_load_core _ rfl (w.heap.size + 1) 0 _ rfl h7b ?_; refine hK _ ?_; clear hK K; try simp only [Act.put, List.setIfInBounds_toArray, List.set_cons_zero, List.set_cons_succ])
           | (go_big_quiet_op; refine hK _ ?_; clear hK K)))
    refine' hold_sole_skip ?_ ?_ ?_
    rotate_left 1
    · simp only [List.getElem?_toArray, List.getElem?_cons_zero, List.getElem?_cons_succ]; exact rfl
    · exact rfl
    try simp only [Act.put, List.setIfInBounds_toArray, List.set_cons_zero, List.set_cons_succ]
    repeat (first
        | (refine' hold_skip ?_ ?_ ?_
           rotate_left 1
           · simp only [List.getElem?_toArray, List.getElem?_cons_zero, List.getElem?_cons_succ]; exact rfl
           · exact rfl
           simp only [Act.put, List.setIfInBounds_toArray, List.set_cons_zero, List.set_cons_succ])
        | (refine' hold_want ?_ ?_ (fun K hK => ?_)
           rotate_left 1
           · simp only [List.getElem?_toArray, List.getElem?_cons_zero, List.getElem?_cons_succ]; exact rfl
           · exact rfl
           first
           | (refine quiet_load_core _ rfl w.heap.size 0 _ rfl h7a ?_; refine hK _ ?_; clear hK K; try simp only [Act.put, List.setIfInBounds_toArray, List.set_cons_zero, List.set_cons_succ])
           | (refine quiet_load_core _ rfl (w.heap.size + 1) 0 _ rfl h7b ?_; refine hK _ ?_; clear hK K; try simp only [Act.put, List.setIfInBounds_toArray, List.set_cons_zero, List.set_cons_succ])
           | (go_big_quiet_op; refine hK _ ?_; clear hK K)))
    refine' hold_sole_skip ?_ ?_ ?_
    rotate_left 1
    · simp only [List.getElem?_toArray, List.getElem?_cons_zero, List.getElem?_cons_succ]; exact rfl
    · exact rfl
    try simp only [Act.put, List.setIfInBounds_toArray, List.set_cons_zero, List.set_cons_succ]
    refine' hold_sole_skip ?_ ?_ ?_
    rotate_left 1
    · simp only [List.getElem?_toArray, List.getElem?_cons_zero, List.getElem?_cons_succ]; exact rfl
    · exact rfl
    try simp only [Act.put, List.setIfInBounds_toArray, List.set_cons_zero, List.set_cons_succ]
    repeat (first
        | (refine' hold_skip ?_ ?_ ?_
           rotate_left 1
           · simp only [List.getElem?_toArray, List.getElem?_cons_zero, List.getElem?_cons_succ]; exact rfl
           · exact rfl
           simp only [Act.put, List.setIfInBounds_toArray, List.set_cons_zero, List.set_cons_succ])
        | (refine' hold_want ?_ ?_ (fun K hK => ?_)
           rotate_left 1
           · simp only [List.getElem?_toArray, List.getElem?_cons_zero, List.getElem?_cons_succ]; exact rfl
           · exact rfl
           first
           | (refine quiet_load_core _ rfl w.heap.size 0 _ rfl h7a ?_; refine hK _ ?_; clear hK K; try simp only [Act.put, List.setIfInBounds_toArray, List.set_cons_zero, List.set_cons_succ])
           | (refine quiet_load_core _ rfl (w.heap.size + 1) 0 _ rfl h7b ?_; refine hK _ ?_; clear hK K; try simp only [Act.put, List.setIfInBounds_toArray, List.set_cons_zero, List.set_cons_succ])
           | (go_big_quiet_op; refine hK _ ?_; clear hK K)))
    refine' hold_sole_skip ?_ ?_ ?_
    rotate_left 1
    · simp only [List.getElem?_toArray, List.getElem?_cons_zero, List.getElem?_cons_succ]; exact rfl
    · exact rfl
    try simp only [Act.put, List.setIfInBounds_toArray, List.set_cons_zero, List.set_cons_succ]
    refine' hold_sole_skip ?_ ?_ ?_
    rotate_left 1
    · simp only [List.getElem?_toArray, List.getElem?_cons_zero, List.getElem?_cons_succ]; exact rfl
    · exact rfl
    try simp only [Act.put, List.setIfInBounds_toArray, List.set_cons_zero, List.set_cons_succ]
    repeat (first
        | (refine' hold_skip ?_ ?_ ?_
           rotate_left 1
           · simp only [List.getElem?_toArray, List.getElem?_cons_zero, List.getElem?_cons_succ]; exact rfl
           · exact rfl
           simp only [Act.put, List.setIfInBounds_toArray, List.set_cons_zero, List.set_cons_succ])
        | (refine' hold_want ?_ ?_ (fun K hK => ?_)
           rotate_left 1
           · simp only [List.getElem?_toArray, List.getElem?_cons_zero, List.getElem?_cons_succ]; exact rfl
           · exact rfl
           first
           | (refine quiet_load_core _ rfl w.heap.size 0 _ rfl h7a ?_; refine hK _ ?_; clear hK K; try simp only [Act.put, List.setIfInBounds_toArray, List.set_cons_zero, List.set_cons_succ])
           | (refine quiet_load_core _ rfl (w.heap.size + 1) 0 _ rfl h7b ?_; refine hK _ ?_; clear hK K; try simp only [Act.put, List.setIfInBounds_toArray, List.set_cons_zero, List.set_cons_succ])
           | (go_big_quiet_op; refine hK _ ?_; clear hK K)))
    refine hold_done ?_
    have Hfin := Lib.hid (Hup.out _ HC.out)
    clear h7a h7b
    go_wp2_with fail
    go_ret
    exact ⟨rfl, Hfin.out⟩
  cases bb
  case true =>
    refine wp_region_hold C (.plain 0 (.sole 1 (.plain 2 (.plain 3 (.sole 4 (.plain 5 (.plain 6 (.plain 7 (.plain 8 (.plain 9 (.plain 10 (.plain 11 (.plain 12 (.plain 13 (.sole 14 (.sole 15 (.plain 16 (.plain 17 (.plain 18 (.plain 19 (.plain 21 (.sole 20 (.sole 22 (.plain 23 (.plain 24 (.plain 25 .done)))))))))))))))))))))))))) (Hcd.out _ HC.out) (by kernel_rfl) (by kernel_rfl) (fun c a d v w h => by cases d <;> exact h) ?_
    have HC := Lib.hid (Hcd.out _ HC.out)
    obtain ⟨wdr, hwdr⟩ : ∃ x, x = w1.drew := ⟨_, rfl⟩
    rw [← hwdr] at HC ⊢
    clear hwdr
    repeat (first
        | (refine' hold_skip ?_ ?_ ?_
           rotate_left 1
           · simp only [List.getElem?_toArray, List.getElem?_cons_zero]; exact rfl
           · exact rfl
           simp only [Act.put, List.setIfInBounds_toArray, List.set_cons_zero, List.set_cons_succ])
        | (refine' hold_want ?_ ?_ (fun K hK => ?_)
           rotate_left 1
           · simp only [List.getElem?_toArray, List.getElem?_cons_zero]; exact rfl
           · exact rfl
           first
           | (refine quiet_load_core _ rfl w.heap.size 0 _ rfl h7a ?_; refine hK _ ?_; clear hK K; try simp only [Act.put, List.setIfInBounds_toArray, List.set_cons_zero, List.set_cons_succ])
           | (refine quiet_load_core _ rfl (w.heap.size + 1) 0 _ rfl h7b ?_; refine hK _ ?_; clear hK K; try simp only [Act.put, List.setIfInBounds_toArray, List.set_cons_zero, List.set_cons_succ])
           | (go_big_quiet_op; refine hK _ ?_; clear hK K)))
    refine' hold_sole ?_ ?_ (fun K hK => ?_)
    rotate_left 1
    · simp only [List.getElem?_toArray, List.getElem?_cons_zero, List.getElem?_cons_succ]; exact rfl
    · exact rfl
    go_simp
    refine (Hbiga.out _ HC.out).mono ?_
    rintro e wa ⟨rfl, hb⟩
    refine hK _ _ (Hcw.out _ _ HC.out hb) ?_
    have HC := Lib.hid (Hcw.out _ _ HC.out hb)
    clear hb
    clear hK K
    try simp only [Act.put, List.setIfInBounds_toArray, List.set_cons_zero, List.set_cons_succ]
    repeat (first
        | (refine' hold_skip ?_ ?_ ?_
           rotate_left 1
           · simp only [List.getElem?_toArray, List.getElem?_cons_zero, List.getElem?_cons_succ]; exact rfl
           · exact rfl
           simp only [Act.put, List.setIfInBounds_toArray, List.set_cons_zero, List.set_cons_succ])
        | (refine' hold_want ?_ ?_ (fun K hK => ?_)
           rotate_left 1
           · simp only [List.getElem?_toArray, List.getElem?_cons_zero, List.getElem?_cons_succ]; exact rfl
           · exact rfl
           first
           | (refine quiet_load_core _ rfl w.heap.size 0 _ rfl h7a ?_; refine hK _ ?_; clear hK K; try simp only [Act.put, List.setIfInBounds_toArray, List.set_cons_zero, List.set_cons_succ])
           | (refine quiet_load_core _ rfl (w.heap.size + 1) 0 _ rfl h7b ?_; refine hK _ ?_; clear hK K; try simp only [Act.put, List.setIfInBounds_toArray, List.set_cons_zero, List.set_cons_succ])
           | (go_big_quiet_op; refine hK _ ?_; clear hK K)))
    refine' hold_sole ?_ ?_ (fun K hK => ?_)
    rotate_left 1
    · simp only [List.getElem?_toArray, List.getElem?_cons_zero, List.getElem?_cons_succ]; exact rfl
    · exact rfl
    go_simp
    refine (Hbigb.out _ HC.out).mono ?_
    rintro e wb ⟨rfl, hb⟩
    refine hK _ _ (Hcw.out _ _ HC.out hb) ?_
    have HC := Lib.hid (Hcw.out _ _ HC.out hb)
    clear hb
    clear hK K
    try simp only [Act.put, List.setIfInBounds_toArray, List.set_cons_zero, List.set_cons_succ]
    repeat (first
        | (refine' hold_skip ?_ ?_ ?_
           rotate_left 1
           · simp only [List.getElem?_toArray, List.getElem?_cons_zero, List.getElem?_cons_succ]; exact rfl
           · exact rfl
           simp only [Act.put, List.setIfInBounds_toArray, List.set_cons_zero, List.set_cons_succ])
        | (refine' hold_want ?_ ?_ (fun K hK => ?_)
           rotate_left 1
           · simp only [List.getElem?_toArray, List.getElem?_cons_zero, List.getElem?_cons_succ]; exact rfl
           · exact rfl
           first
           | (refine quiet_load_core _ rfl w.heap.size 0 _ rfl h7a ?_; refine hK _ ?_; clear hK K; try simp only [Act.put, List.setIfInBounds_toArray, List.set_cons_zero, List.set_cons_succ])
           | (refine quiet_load_core _ rfl (w.heap.size + 1) 0 _ rfl h7b ?_; refine hK _ ?_; clear hK K; try simp only [Act.put, List.setIfInBounds_toArray, List.set_cons_zero, List.set_cons_succ])
           | (go_big_quiet_op; refine hK _ ?_; clear hK K)))
    refine' hold_sole_skip ?_ ?_ ?_
    rotate_left 1
    · simp only [List.getElem?_toArray, List.getElem?_cons_zero, List.getElem?_cons_succ]; exact rfl
    · exact rfl
    try simp only [Act.put, List.setIfInBounds_toArray, List.set_cons_zero, List.set_cons_succ]
    refine' hold_sole_skip ?_ ?_ ?_
    rotate_left 1
    · simp only [List.getElem?_toArray, List.getElem?_cons_zero, List.getElem?_cons_succ]; exact rfl
    · exact rfl
    try simp only [Act.put, List.setIfInBounds_toArray, List.set_cons_zero, List.set_cons_succ]
    repeat (first
        | (refine' hold_skip ?_ ?_ ?_
           rotate_left 1
           · simp only [List.getElem?_toArray, List.getElem?_cons_zero, List.getElem?_cons_succ]; exact rfl
           · exact rfl
           simp only [Act.put, List.setIfInBounds_toArray, List.set_cons_zero, List.set_cons_succ])
        | (refine' hold_want ?_ ?_ (fun K hK => ?_)
           rotate_left 1
           · simp only [List.getElem?_toArray, List.getElem?_cons_zero, List.getElem?_cons_succ]; exact rfl
           · exact rfl
           first
           | (refine quiet_load_core _ rfl w.heap.size 0 _ rfl h7a ?_; refine hK _ ?_; clear hK K; try simp only [Act.put, List.setIfInBounds_toArray, List.set_cons_zero, List.set_cons_succ])
           | (refine quiet_load_core _ rfl (w.heap.size + 1) 0 _ rfl h7b ?_; refine hK _ ?_; clear hK K; try simp only [Act.put, List.setIfInBounds_toArray, List.set_cons_zero, List.set_cons_succ])
           | (go_big_quiet_op; refine hK _ ?_; clear hK K)))
    refine' hold_sole_skip ?_ ?_ ?_
    rotate_left 1
    · simp only [List.getElem?_toArray, List.getElem?_cons_zero, List.getElem?_cons_succ]; exact rfl
    · exact rfl
    try simp only [Act.put, List.setIfInBounds_toArray, List.set_cons_zero, List.set_cons_succ]
    refine' hold_sole_skip ?_ ?_ ?_
    rotate_left 1
    · simp only [List.getElem?_toArray, List.getElem?_cons_zero, List.getElem?_cons_succ]; exact rfl
    · exact rfl
    try simp only [Act.put, List.setIfInBounds_toArray, List.set_cons_zero, List.set_cons_succ]
    repeat (first
        | (refine' hold_skip ?_ ?_ ?_
           rotate_left 1
           · simp only [List.getElem?_toArray, List.getElem?_cons_zero, List.getElem?_cons_succ]; exact rfl
           · exact rfl
           simp only [Act.put, List.setIfInBounds_toArray, List.set_cons_zero, List.set_cons_succ])
        | (refine' hold_want ?_ ?_ (fun K hK => ?_)
           rotate_left 1
           · simp only [List.getElem?_toArray, List.getElem?_cons_zero, List.getElem?_cons_succ]; exact rfl
           · exact rfl
           first
           | (refine quiet_load_core _ rfl w.heap.size 0 _ rfl h7a ?_; refine hK _ ?_; clear hK K; try simp only [Act.put, List.setIfInBounds_toArray, List.set_cons_zero, List.set_cons_succ])
           | (refine quiet_load_core _ rfl (w.heap.size + 1) 0 _ rfl h7b ?_; refine hK _ ?_; clear hK K; try simp only [Act.put, List.setIfInBounds_toArray, List.set_cons_zero, List.set_cons_succ])
           | (go_big_quiet_op; refine hK _ ?_; clear hK K)))
    refine hold_done ?_
    have Hfin := Lib.hid (Hup.out _ HC.out)
    clear h7a h7b
    go_wp2_with fail
    go_ret
    exact ⟨rfl, Hfin.out⟩
  by_cases c1 : 10 < n
  · have d1 : decide ((n : Int) > 10) = true := by simp; omega
    have d2 : decide ((10 : Int) < (n : Int)) = true := by simp; omega
    have d3 : decide (10 < n) = true := by simp; omega
    clear c1
    refine wp_region_hold C (.plain 0 (.sole 1 (.plain 2 (.plain 3 (.sole 4 (.plain 5 (.plain 6 (.plain 7 (.plain 8 (.plain 9 (.plain 10 (.plain 11 (.plain 12 (.plain 13 (.sole 14 (.sole 15 (.plain 16 (.plain 17 (.plain 18 (.plain 19 (.plain 21 (.sole 20 (.sole 22 (.plain 23 (.plain 24 (.plain 25 .done)))))))))))))))))))))))))) (Hcd.out _ HC.out) (by kernel_rfl) (by kernel_rfl) (fun c a d v w h => by cases d <;> exact h) ?_
    have HC := Lib.hid (Hcd.out _ HC.out)
    obtain ⟨wdr, hwdr⟩ : ∃ x, x = w1.drew := ⟨_, rfl⟩
    rw [← hwdr] at HC ⊢
    clear hwdr
    repeat (first
        | (refine' hold_skip ?_ ?_ ?_
           rotate_left 1
           · simp only [List.getElem?_toArray, List.getElem?_cons_zero]; exact rfl
           · exact rfl
           simp only [Act.put, List.setIfInBounds_toArray, List.set_cons_zero, List.set_cons_succ])
        | (refine' hold_want ?_ ?_ (fun K hK => ?_)
           rotate_left 1
           · simp only [List.getElem?_toArray, List.getElem?_cons_zero]; exact rfl
           · exact rfl
           first
           | (refine quiet_load_core _ rfl w.heap.size 0 _ rfl h7a ?_; refine hK _ ?_; clear hK K; try simp only [Act.put, List.setIfInBounds_toArray, List.set_cons_zero, List.set_cons_succ])
           | (refine quiet_load_core _ rfl (w.heap.size + 1) 0 _ rfl h7b ?_; refine hK _ ?_; clear hK K; try simp only [Act.put, List.setIfInBounds_toArray, List.set_cons_zero, List.set_cons_succ])
           | (go_big_quiet_op; refine hK _ ?_; clear hK K)))
    refine' hold_sole ?_ ?_ (fun K hK => ?_)
    rotate_left 1
    · simp only [List.getElem?_toArray, List.getElem?_cons_zero, List.getElem?_cons_succ]; exact rfl
    · exact rfl
    go_simp
    refine (Hbiga.out _ HC.out).mono ?_
    rintro e wa ⟨rfl, hb⟩
    refine hK _ _ (Hcw.out _ _ HC.out hb) ?_
    have HC := Lib.hid (Hcw.out _ _ HC.out hb)
    clear hb
    clear hK K
    try simp only [Act.put, List.setIfInBounds_toArray, List.set_cons_zero, List.set_cons_succ]
    repeat (first
        | (refine' hold_skip ?_ ?_ ?_
           rotate_left 1
           · simp only [List.getElem?_toArray, List.getElem?_cons_zero, List.getElem?_cons_succ]; exact rfl
           · exact rfl
           simp only [Act.put, List.setIfInBounds_toArray, List.set_cons_zero, List.set_cons_succ])
        | (refine' hold_want ?_ ?_ (fun K hK => ?_)
           rotate_left 1
           · simp only [List.getElem?_toArray, List.getElem?_cons_zero, List.getElem?_cons_succ]; exact rfl
           · exact rfl
           first
           | (refine quiet_load_core _ rfl w.heap.size 0 _ rfl h7a ?_; refine hK _ ?_; clear hK K; try simp only [Act.put, List.setIfInBounds_toArray, List.set_cons_zero, List.set_cons_succ])
           | (refine quiet_load_core _ rfl (w.heap.size + 1) 0 _ rfl h7b ?_; refine hK _ ?_; clear hK K; try simp only [Act.put, List.setIfInBounds_toArray, List.set_cons_zero, List.set_cons_succ])
           | (go_big_quiet_op; refine hK _ ?_; clear hK K)))
    refine' hold_sole ?_ ?_ (fun K hK => ?_)
    rotate_left 1
    · simp only [List.getElem?_toArray, List.getElem?_cons_zero, List.getElem?_cons_succ]; exact rfl
    · exact rfl
    go_simp
    refine (Hbigb.out _ HC.out).mono ?_
    rintro e wb ⟨rfl, hb⟩
    refine hK _ _ (Hcw.out _ _ HC.out hb) ?_
    have HC := Lib.hid (Hcw.out _ _ HC.out hb)
    clear hb
    clear hK K
    try simp only [Act.put, List.setIfInBounds_toArray, List.set_cons_zero, List.set_cons_succ]
    repeat (first
        | (refine' hold_skip ?_ ?_ ?_
           rotate_left 1
           · simp only [List.getElem?_toArray, List.getElem?_cons_zero, List.getElem?_cons_succ]; exact rfl
           · exact rfl
           simp only [Act.put, List.setIfInBounds_toArray, List.set_cons_zero, List.set_cons_succ])
        | (refine' hold_want ?_ ?_ (fun K hK => ?_)
           rotate_left 1
           · simp only [List.getElem?_toArray, List.getElem?_cons_zero, List.getElem?_cons_succ]; exact rfl
           · exact rfl
           first
           | (refine quiet_load_core _ rfl w.heap.size 0 _ rfl h7a ?_; refine hK _ ?_; clear hK K; try simp only [Act.put, List.setIfInBounds_toArray, List.set_cons_zero, List.set_cons_succ])
           | (refine quiet_load_core _ rfl (w.heap.size + 1) 0 _ rfl h7b ?_; refine hK _ ?_; clear hK K; try simp only [Act.put, List.setIfInBounds_toArray, List.set_cons_zero, List.set_cons_succ])
           | (go_big_quiet_op; refine hK _ ?_; clear hK K)))
    refine' hold_sole_skip ?_ ?_ ?_
    rotate_left 1
    · simp only [List.getElem?_toArray, List.getElem?_cons_zero, List.getElem?_cons_succ]; exact rfl
    · exact rfl
    try simp only [Act.put, List.setIfInBounds_toArray, List.set_cons_zero, List.set_cons_succ]
    refine' hold_sole_skip ?_ ?_ ?_
    rotate_left 1
    · simp only [List.getElem?_toArray, List.getElem?_cons_zero, List.getElem?_cons_succ]; exact rfl
    · exact rfl
    try simp only [Act.put, List.setIfInBounds_toArray, List.set_cons_zero, List.set_cons_succ]
    repeat (first
        | (refine' hold_skip ?_ ?_ ?_
           rotate_left 1
           · simp only [List.getElem?_toArray, List.getElem?_cons_zero, List.getElem?_cons_succ]; exact rfl
           · exact rfl
           simp only [Act.put, List.setIfInBounds_toArray, List.set_cons_zero, List.set_cons_succ])
        | (refine' hold_want ?_ ?_ (fun K hK => ?_)
           rotate_left 1
           · simp only [List.getElem?_toArray, List.getElem?_cons_zero, List.getElem?_cons_succ]; exact rfl
           · exact rfl
           first
           | (refine quiet_load_core _ rfl w.heap.size 0 _ rfl h7a ?_; refine hK _ ?_; clear hK K; try simp only [Act.put, List.setIfInBounds_toArray, List.set_cons_zero, List.set_cons_succ])
           | (refine quiet_load_core _ rfl (w.heap.size + 1) 0 _ rfl h7b ?_; refine hK _ ?_; clear hK K; try simp only [Act.put, List.setIfInBounds_toArray, List.set_cons_zero, List.set_cons_succ])
           | (go_big_quiet_op; refine hK _ ?_; clear hK K)))
    refine' hold_sole_skip ?_ ?_ ?_
    rotate_left 1
    · simp only [List.getElem?_toArray, List.getElem?_cons_zero, List.getElem?_cons_succ]; exact rfl
    · exact rfl
    try simp only [Act.put, List.setIfInBounds_toArray, List.set_cons_zero, List.set_cons_succ]
    refine' hold_sole_skip ?_ ?_ ?_
    rotate_left 1
    · simp only [List.getElem?_toArray, List.getElem?_cons_zero, List.getElem?_cons_succ]; exact rfl
    · exact rfl
    try simp only [Act.put, List.setIfInBounds_toArray, List.set_cons_zero, List.set_cons_succ]
    repeat (first
        | (refine' hold_skip ?_ ?_ ?_
           rotate_left 1
           · simp only [List.getElem?_toArray, List.getElem?_cons_zero, List.getElem?_cons_succ]; exact rfl
           · exact rfl
           simp only [Act.put, List.setIfInBounds_toArray, List.set_cons_zero, List.set_cons_succ])
        | (refine' hold_want ?_ ?_ (fun K hK => ?_)
           rotate_left 1
           · simp only [List.getElem?_toArray, List.getElem?_cons_zero, List.getElem?_cons_succ]; exact rfl
           · exact rfl
           first
           | (refine quiet_load_core _ rfl w.heap.size 0 _ rfl h7a ?_; refine hK _ ?_; clear hK K; try simp only [Act.put, List.setIfInBounds_toArray, List.set_cons_zero, List.set_cons_succ])
           | (refine quiet_load_core _ rfl (w.heap.size + 1) 0 _ rfl h7b ?_; refine hK _ ?_; clear hK K; try simp only [Act.put, List.setIfInBounds_toArray, List.set_cons_zero, List.set_cons_succ])
           | (go_big_quiet_op; refine hK _ ?_; clear hK K)))
    refine hold_done ?_
    have Hfin := Lib.hid (Hup.out _ HC.out)
    clear h7a h7b
    go_wp2_with fail
    go_ret
    exact ⟨rfl, Hfin.out⟩
  have d1 : decide ((n : Int) > 10) = false := by simp; omega
  have d2 : decide ((10 : Int) < (n : Int)) = false := by simp; omega
  have d3 : decide (10 < n) = false := by simp; omega
  have C1 : n ≤ 10 := by omega
  clear c1
  obtain ⟨gz, hgz⟩ : ∃ b, goodC (.mk 3 0 0 [x, y]) = b := ⟨_, rfl⟩
  have Hgood := Lib.hid (fun (w' : World) (zs : List Value) (h : Cr.at w' (.mk 3 0 0 [x, y]) zs) => K.good_walk h)
  rw [hgz] at Hgood
  cases gz
  case false =>
    clear hgz
    refine wp_region_hold C (.plain 0 (.sole 1 (.plain 2 (.plain 3 (.sole 4 (.plain 5 (.plain 6 (.plain 7 (.plain 8 (.plain 9 (.plain 10 (.plain 11 (.plain 12 (.plain 13 (.sole 14 (.sole 15 (.plain 16 (.plain 17 (.plain 18 (.plain 19 (.plain 21 (.sole 20 (.sole 22 (.plain 23 (.plain 24 (.plain 25 .done)))))))))))))))))))))))))) (Hcd.out _ HC.out) (by kernel_rfl) (by kernel_rfl) (fun c a d v w h => by cases d <;> exact h) ?_
    have HC := Lib.hid (Hcd.out _ HC.out)
    obtain ⟨wdr, hwdr⟩ : ∃ x, x = w1.drew := ⟨_, rfl⟩
    rw [← hwdr] at HC ⊢
    clear hwdr
    repeat (first
        | (refine' hold_skip ?_ ?_ ?_
           rotate_left 1
           · simp only [List.getElem?_toArray, List.getElem?_cons_zero]; exact rfl
           · exact rfl
           simp only [Act.put, List.setIfInBounds_toArray, List.set_cons_zero, List.set_cons_succ])
        | (refine' hold_want ?_ ?_ (fun K hK => ?_)
           rotate_left 1
           · simp only [List.getElem?_toArray, List.getElem?_cons_zero]; exact rfl
           · exact rfl
           first
           | (refine quiet_load_core _ rfl w.heap.size 0 _ rfl h7a ?_; refine hK _ ?_; clear hK K; try simp only [Act.put, List.setIfInBounds_toArray, List.set_cons_zero, List.set_cons_succ])
           | (refine quiet_load_core _ rfl (w.heap.size + 1) 0 _ rfl h7b ?_; refine hK _ ?_; clear hK K; try simp only [Act.put, List.setIfInBounds_toArray, List.set_cons_zero, List.set_cons_succ])
           | (go_big_quiet_op; refine hK _ ?_; clear hK K)))
    refine' hold_sole ?_ ?_ (fun K hK => ?_)
    rotate_left 1
    · simp only [List.getElem?_toArray, List.getElem?_cons_zero, List.getElem?_cons_succ]; exact rfl
    · exact rfl
    go_simp
    refine (Hbiga.out _ HC.out).mono ?_
    rintro e wa ⟨rfl, hb⟩
    refine hK _ _ (Hcw.out _ _ HC.out hb) ?_
    have HC := Lib.hid (Hcw.out _ _ HC.out hb)
    clear hb
    clear hK K
    try simp only [Act.put, List.setIfInBounds_toArray, List.set_cons_zero, List.set_cons_succ]
    repeat (first
        | (refine' hold_skip ?_ ?_ ?_
           rotate_left 1
           · simp only [List.getElem?_toArray, List.getElem?_cons_zero, List.getElem?_cons_succ]; exact rfl
           · exact rfl
           simp only [Act.put, List.setIfInBounds_toArray, List.set_cons_zero, List.set_cons_succ])
        | (refine' hold_want ?_ ?_ (fun K hK => ?_)
           rotate_left 1
           · simp only [List.getElem?_toArray, List.getElem?_cons_zero, List.getElem?_cons_succ]; exact rfl
           · exact rfl
           first
           | (refine quiet_load_core _ rfl w.heap.size 0 _ rfl h7a ?_; refine hK _ ?_; clear hK K; try simp only [Act.put, List.setIfInBounds_toArray, List.set_cons_zero, List.set_cons_succ])
           | (refine quiet_load_core _ rfl (w.heap.size + 1) 0 _ rfl h7b ?_; refine hK _ ?_; clear hK K; try simp only [Act.put, List.setIfInBounds_toArray, List.set_cons_zero, List.set_cons_succ])
           | (go_big_quiet_op; refine hK _ ?_; clear hK K)))
    refine' hold_sole ?_ ?_ (fun K hK => ?_)
    rotate_left 1
    · simp only [List.getElem?_toArray, List.getElem?_cons_zero, List.getElem?_cons_succ]; exact rfl
    · exact rfl
    go_simp
    refine (Hbigb.out _ HC.out).mono ?_
    rintro e wb ⟨rfl, hb⟩
    refine hK _ _ (Hcw.out _ _ HC.out hb) ?_
    have HC := Lib.hid (Hcw.out _ _ HC.out hb)
    clear hb
    clear hK K
    try simp only [Act.put, List.setIfInBounds_toArray, List.set_cons_zero, List.set_cons_succ]
    repeat (first
        | (refine' hold_skip ?_ ?_ ?_
           rotate_left 1
           · simp only [List.getElem?_toArray, List.getElem?_cons_zero, List.getElem?_cons_succ]; exact rfl
           · exact rfl
           simp only [Act.put, List.setIfInBounds_toArray, List.set_cons_zero, List.set_cons_succ])
        | (refine' hold_want ?_ ?_ (fun K hK => ?_)
           rotate_left 1
           · simp only [List.getElem?_toArray, List.getElem?_cons_zero, List.getElem?_cons_succ]; exact rfl
           · exact rfl
           first
           | (refine quiet_load_core _ rfl w.heap.size 0 _ rfl h7a ?_; refine hK _ ?_; clear hK K; try simp only [Act.put, List.setIfInBounds_toArray, List.set_cons_zero, List.set_cons_succ])
           | (refine quiet_load_core _ rfl (w.heap.size + 1) 0 _ rfl h7b ?_; refine hK _ ?_; clear hK K; try simp only [Act.put, List.setIfInBounds_toArray, List.set_cons_zero, List.set_cons_succ])
           | (go_big_quiet_op; refine hK _ ?_; clear hK K)))
    refine' hold_sole ?_ ?_ (fun K hK => ?_)
    rotate_left 1
    · simp only [List.getElem?_toArray, List.getElem?_cons_zero, List.getElem?_cons_succ]; exact rfl
    · exact rfl
    go_simp
    refine (seq_walk (HA.out _ HC.out) (HB.out _ HC.out)).mono ?_
    rintro e wc ⟨zs, rfl, hat, hb⟩
    refine hK _ _ (Hcw.out _ _ HC.out hb) ?_
    have HC := Lib.hid (Hcw.out _ _ HC.out hb)
    have AZ := Lib.hid hat
    clear hat
    clear hb
    clear hK K
    try simp only [Act.put, List.setIfInBounds_toArray, List.set_cons_zero, List.set_cons_succ]
    refine' hold_sole ?_ ?_ (fun K hK => ?_)
    rotate_left 1
    · simp only [List.getElem?_toArray, List.getElem?_cons_zero, List.getElem?_cons_succ]; exact rfl
    · exact rfl
    go_simp
    refine (Hgood.out _ _ AZ.out).mono ?_
    rintro e wg ⟨rfl, hb⟩
    refine hK _ _ (Hcw.out _ _ HC.out hb) ?_
    have HC := Lib.hid (Hcw.out _ _ HC.out hb)
    clear hb
    clear hK K
    try simp only [Act.put, List.setIfInBounds_toArray, List.set_cons_zero, List.set_cons_succ]
    repeat (first
        | (refine' hold_skip ?_ ?_ ?_
           rotate_left 1
           · simp only [List.getElem?_toArray, List.getElem?_cons_zero, List.getElem?_cons_succ]; exact rfl
           · exact rfl
           simp only [Act.put, List.setIfInBounds_toArray, List.set_cons_zero, List.set_cons_succ])
        | (refine' hold_want ?_ ?_ (fun K hK => ?_)
           rotate_left 1
           · simp only [List.getElem?_toArray, List.getElem?_cons_zero, List.getElem?_cons_succ]; exact rfl
           · exact rfl
           first
           | (refine quiet_load_core _ rfl w.heap.size 0 _ rfl h7a ?_; refine hK _ ?_; clear hK K; try simp only [Act.put, List.setIfInBounds_toArray, List.set_cons_zero, List.set_cons_succ])
           | (refine quiet_load_core _ rfl (w.heap.size + 1) 0 _ rfl h7b ?_; refine hK _ ?_; clear hK K; try simp only [Act.put, List.setIfInBounds_toArray, List.set_cons_zero, List.set_cons_succ])
           | (go_big_quiet_op; refine hK _ ?_; clear hK K)))
    refine' hold_sole_skip ?_ ?_ ?_
    rotate_left 1
    · simp only [List.getElem?_toArray, List.getElem?_cons_zero, List.getElem?_cons_succ]; exact rfl
    · exact rfl
    try simp only [Act.put, List.setIfInBounds_toArray, List.set_cons_zero, List.set_cons_succ]
    refine' hold_sole_skip ?_ ?_ ?_
    rotate_left 1
    · simp only [List.getElem?_toArray, List.getElem?_cons_zero, List.getElem?_cons_succ]; exact rfl
    · exact rfl
    try simp only [Act.put, List.setIfInBounds_toArray, List.set_cons_zero, List.set_cons_succ]
    repeat (first
        | (refine' hold_skip ?_ ?_ ?_
           rotate_left 1
           · simp only [List.getElem?_toArray, List.getElem?_cons_zero, List.getElem?_cons_succ]; exact rfl
           · exact rfl
           simp only [Act.put, List.setIfInBounds_toArray, List.set_cons_zero, List.set_cons_succ])
        | (refine' hold_want ?_ ?_ (fun K hK => ?_)
           rotate_left 1
           · simp only [List.getElem?_toArray, List.getElem?_cons_zero, List.getElem?_cons_succ]; exact rfl
           · exact rfl
           first
           | (refine quiet_load_core _ rfl w.heap.size 0 _ rfl h7a ?_; refine hK _ ?_; clear hK K; try simp only [Act.put, List.setIfInBounds_toArray, List.set_cons_zero, List.set_cons_succ])
           | (refine quiet_load_core _ rfl (w.heap.size + 1) 0 _ rfl h7b ?_; refine hK _ ?_; clear hK K; try simp only [Act.put, List.setIfInBounds_toArray, List.set_cons_zero, List.set_cons_succ])
           | (go_big_quiet_op; refine hK _ ?_; clear hK K)))
    refine hold_done ?_
    have Hfin := Lib.hid (Hup.out _ HC.out)
    clear h7a h7b
    go_wp2_with fail
    go_ret
    exact ⟨rfl, Hfin.out⟩
  by_cases c2 : 120 < sizeOfC x + sizeOfC y
  · have e0 : (sizeOfC x : Int) + (sizeOfC y : Int) = ((sizeOfC x + sizeOfC y : Nat) : Int) := by omega
    have e1 : IntKind.i64.wrap ((sizeOfC x : Int) + (sizeOfC y : Int)) = ((sizeOfC x + sizeOfC y : Nat) : Int) := by
      have h1 : sizeOfC x ≤ 100000 := by unfold sizeOfC; omega
      have h2 : sizeOfC y ≤ 100000 := by unfold sizeOfC; omega
      rw [IntKind.wrap_i64]; omega
    have f1 : decide (((sizeOfC x : Int) + (sizeOfC y : Int)) > 120) = true := by simp; omega
    have f2 : decide ((120 : Int) < (sizeOfC x : Int) + (sizeOfC y : Int)) = true := by simp; omega
    have f3 : decide (120 < sizeOfC x + sizeOfC y) = true := by simp; omega
    have f4 : decide ((120 : Int) < ((sizeOfC x + sizeOfC y : Nat) : Int)) = true := by simp; omega
    have b1 : (sizeOfC x : Int) ≤ 100000 := by unfold sizeOfC; omega
    have b2 : (sizeOfC y : Int) ≤ 100000 := by unfold sizeOfC; omega
    clear c2 hgz e0
    refine wp_region_hold C (.plain 0 (.sole 1 (.plain 2 (.plain 3 (.sole 4 (.plain 5 (.plain 6 (.plain 7 (.plain 8 (.plain 9 (.plain 10 (.plain 11 (.plain 12 (.plain 13 (.sole 14 (.sole 15 (.plain 16 (.plain 17 (.plain 18 (.plain 19 (.plain 21 (.sole 20 (.sole 22 (.plain 23 (.plain 24 (.plain 25 .done)))))))))))))))))))))))))) (Hcd.out _ HC.out) (by kernel_rfl) (by kernel_rfl) (fun c a d v w h => by cases d <;> exact h) ?_
    have HC := Lib.hid (Hcd.out _ HC.out)
    obtain ⟨wdr, hwdr⟩ : ∃ x, x = w1.drew := ⟨_, rfl⟩
    rw [← hwdr] at HC ⊢
    clear hwdr
    repeat (first
        | (refine' hold_skip ?_ ?_ ?_
           rotate_left 1
           · simp only [List.getElem?_toArray, List.getElem?_cons_zero]; exact rfl
           · exact rfl
           simp only [Act.put, List.setIfInBounds_toArray, List.set_cons_zero, List.set_cons_succ])
        | (refine' hold_want ?_ ?_ (fun K hK => ?_)
           rotate_left 1
           · simp only [List.getElem?_toArray, List.getElem?_cons_zero]; exact rfl
           · exact rfl
           first
           | (refine quiet_load_core _ rfl w.heap.size 0 _ rfl h7a ?_; refine hK _ ?_; clear hK K; try simp only [Act.put, List.setIfInBounds_toArray, List.set_cons_zero, List.set_cons_succ])
           | (refine quiet_load_core _ rfl (w.heap.size + 1) 0 _ rfl h7b ?_; refine hK _ ?_; clear hK K; try simp only [Act.put, List.setIfInBounds_toArray, List.set_cons_zero, List.set_cons_succ])
           | (go_big_quiet_op; refine hK _ ?_; clear hK K)))
    refine' hold_sole ?_ ?_ (fun K hK => ?_)
    rotate_left 1
    · simp only [List.getElem?_toArray, List.getElem?_cons_zero, List.getElem?_cons_succ]; exact rfl
    · exact rfl
    go_simp
    refine (Hbiga.out _ HC.out).mono ?_
    rintro e wa ⟨rfl, hb⟩
    refine hK _ _ (Hcw.out _ _ HC.out hb) ?_
    have HC := Lib.hid (Hcw.out _ _ HC.out hb)
    clear hb
    clear hK K
    try simp only [Act.put, List.setIfInBounds_toArray, List.set_cons_zero, List.set_cons_succ]
    repeat (first
        | (refine' hold_skip ?_ ?_ ?_
           rotate_left 1
           · simp only [List.getElem?_toArray, List.getElem?_cons_zero, List.getElem?_cons_succ]; exact rfl
           · exact rfl
           simp only [Act.put, List.setIfInBounds_toArray, List.set_cons_zero, List.set_cons_succ])
        | (refine' hold_want ?_ ?_ (fun K hK => ?_)
           rotate_left 1
           · simp only [List.getElem?_toArray, List.getElem?_cons_zero, List.getElem?_cons_succ]; exact rfl
           · exact rfl
           first
           | (refine quiet_load_core _ rfl w.heap.size 0 _ rfl h7a ?_; refine hK _ ?_; clear hK K; try simp only [Act.put, List.setIfInBounds_toArray, List.set_cons_zero, List.set_cons_succ])
           | (refine quiet_load_core _ rfl (w.heap.size + 1) 0 _ rfl h7b ?_; refine hK _ ?_; clear hK K; try simp only [Act.put, List.setIfInBounds_toArray, List.set_cons_zero, List.set_cons_succ])
           | (go_big_quiet_op; refine hK _ ?_; clear hK K)))
    refine' hold_sole ?_ ?_ (fun K hK => ?_)
    rotate_left 1
    · simp only [List.getElem?_toArray, List.getElem?_cons_zero, List.getElem?_cons_succ]; exact rfl
    · exact rfl
    go_simp
    refine (Hbigb.out _ HC.out).mono ?_
    rintro e wb ⟨rfl, hb⟩
    refine hK _ _ (Hcw.out _ _ HC.out hb) ?_
    have HC := Lib.hid (Hcw.out _ _ HC.out hb)
    clear hb
    clear hK K
    try simp only [Act.put, List.setIfInBounds_toArray, List.set_cons_zero, List.set_cons_succ]
    repeat (first
        | (refine' hold_skip ?_ ?_ ?_
           rotate_left 1
           · simp only [List.getElem?_toArray, List.getElem?_cons_zero, List.getElem?_cons_succ]; exact rfl
           · exact rfl
           simp only [Act.put, List.setIfInBounds_toArray, List.set_cons_zero, List.set_cons_succ])
        | (refine' hold_want ?_ ?_ (fun K hK => ?_)
           rotate_left 1
           · simp only [List.getElem?_toArray, List.getElem?_cons_zero, List.getElem?_cons_succ]; exact rfl
           · exact rfl
           first
           | (refine quiet_load_core _ rfl w.heap.size 0 _ rfl h7a ?_; refine hK _ ?_; clear hK K; try simp only [Act.put, List.setIfInBounds_toArray, List.set_cons_zero, List.set_cons_succ])
           | (refine quiet_load_core _ rfl (w.heap.size + 1) 0 _ rfl h7b ?_; refine hK _ ?_; clear hK K; try simp only [Act.put, List.setIfInBounds_toArray, List.set_cons_zero, List.set_cons_succ])
           | (go_big_quiet_op; refine hK _ ?_; clear hK K)))
    refine' hold_sole ?_ ?_ (fun K hK => ?_)
    rotate_left 1
    · simp only [List.getElem?_toArray, List.getElem?_cons_zero, List.getElem?_cons_succ]; exact rfl
    · exact rfl
    go_simp
    refine (seq_walk (HA.out _ HC.out) (HB.out _ HC.out)).mono ?_
    rintro e wc ⟨zs, rfl, hat, hb⟩
    refine hK _ _ (Hcw.out _ _ HC.out hb) ?_
    have HC := Lib.hid (Hcw.out _ _ HC.out hb)
    have AZ := Lib.hid hat
    clear hat
    clear hb
    clear hK K
    try simp only [Act.put, List.setIfInBounds_toArray, List.set_cons_zero, List.set_cons_succ]
    refine' hold_sole ?_ ?_ (fun K hK => ?_)
    rotate_left 1
    · simp only [List.getElem?_toArray, List.getElem?_cons_zero, List.getElem?_cons_succ]; exact rfl
    · exact rfl
    go_simp
    refine (Hgood.out _ _ AZ.out).mono ?_
    rintro e wg ⟨rfl, hb⟩
    refine hK _ _ (Hcw.out _ _ HC.out hb) ?_
    have HC := Lib.hid (Hcw.out _ _ HC.out hb)
    clear hb
    clear hK K
    try simp only [Act.put, List.setIfInBounds_toArray, List.set_cons_zero, List.set_cons_succ]
    repeat (first
        | (refine' hold_skip ?_ ?_ ?_
           rotate_left 1
           · simp only [List.getElem?_toArray, List.getElem?_cons_zero, List.getElem?_cons_succ]; exact rfl
           · exact rfl
           simp only [Act.put, List.setIfInBounds_toArray, List.set_cons_zero, List.set_cons_succ])
        | (refine' hold_want ?_ ?_ (fun K hK => ?_)
           rotate_left 1
           · simp only [List.getElem?_toArray, List.getElem?_cons_zero, List.getElem?_cons_succ]; exact rfl
           · exact rfl
           first
           | (refine quiet_load_core _ rfl w.heap.size 0 _ rfl h7a ?_; refine hK _ ?_; clear hK K; try simp only [Act.put, List.setIfInBounds_toArray, List.set_cons_zero, List.set_cons_succ])
           | (refine quiet_load_core _ rfl (w.heap.size + 1) 0 _ rfl h7b ?_; refine hK _ ?_; clear hK K; try simp only [Act.put, List.setIfInBounds_toArray, List.set_cons_zero, List.set_cons_succ])
           | (go_big_quiet_op; refine hK _ ?_; clear hK K)))
    refine' hold_sole ?_ ?_ (fun K hK => ?_)
    rotate_left 1
    · simp only [List.getElem?_toArray, List.getElem?_cons_zero, List.getElem?_cons_succ]; exact rfl
    · exact rfl
    go_simp
    refine (Hsza.out _ HC.out).mono ?_
    rintro e wsa ⟨rfl, hb⟩
    refine hK _ _ (Hcw.out _ _ HC.out hb) ?_
    have HC := Lib.hid (Hcw.out _ _ HC.out hb)
    clear hb
    clear hK K
    try simp only [Act.put, List.setIfInBounds_toArray, List.set_cons_zero, List.set_cons_succ]
    refine' hold_sole ?_ ?_ (fun K hK => ?_)
    rotate_left 1
    · simp only [List.getElem?_toArray, List.getElem?_cons_zero, List.getElem?_cons_succ]; exact rfl
    · exact rfl
    go_simp
    refine (Hszb.out _ HC.out).mono ?_
    rintro e wsb ⟨rfl, hb⟩
    refine hK _ _ (Hcw.out _ _ HC.out hb) ?_
    have HC := Lib.hid (Hcw.out _ _ HC.out hb)
    clear hb
    clear hK K
    try simp only [Act.put, List.setIfInBounds_toArray, List.set_cons_zero, List.set_cons_succ]
    repeat (first
        | (refine' hold_skip ?_ ?_ ?_
           rotate_left 1
           · simp only [List.getElem?_toArray, List.getElem?_cons_zero, List.getElem?_cons_succ]; exact rfl
           · exact rfl
           simp only [Act.put, List.setIfInBounds_toArray, List.set_cons_zero, List.set_cons_succ])
        | (refine' hold_want ?_ ?_ (fun K hK => ?_)
           rotate_left 1
           · simp only [List.getElem?_toArray, List.getElem?_cons_zero, List.getElem?_cons_succ]; exact rfl
           · exact rfl
           first
           | (refine quiet_load_core _ rfl w.heap.size 0 _ rfl h7a ?_; refine hK _ ?_; clear hK K; try simp only [Act.put, List.setIfInBounds_toArray, List.set_cons_zero, List.set_cons_succ])
           | (refine quiet_load_core _ rfl (w.heap.size + 1) 0 _ rfl h7b ?_; refine hK _ ?_; clear hK K; try simp only [Act.put, List.setIfInBounds_toArray, List.set_cons_zero, List.set_cons_succ])
           | (go_big_quiet_op; refine hK _ ?_; clear hK K)))
    refine hold_done ?_
    clear e1
    have Hfin := Lib.hid (Hup.out _ HC.out)
    clear h7a h7b
    go_wp2_with fail
    go_ret
    exact ⟨rfl, Hfin.out⟩
  have HF : Hid ((goodC x = true ∧ goodC y = true ∧ goodC (.mk 4 0 0 [x, y]) = true ∧ goodC (.mk 5 0 0 [x]) = true) ∧ goodC (.mk 3 0 0 [x, y]) = true) := by
    have h1 := count_of_size (x := x) (n := sizeOfC x) (Nat.le_refl _) (by omega)
    have h2 := count_of_size (x := y) (n := sizeOfC y) (Nat.le_refl _) (by omega)
    exact ⟨parts_good hgz (by omega), hgz⟩
  have b1 : (sizeOfC x : Int) ≤ 120 := by omega
  have b2 : (sizeOfC y : Int) ≤ 120 := by omega
  have e1 : IntKind.i64.wrap ((sizeOfC x : Int) + (sizeOfC y : Int)) = (sizeOfC x : Int) + (sizeOfC y : Int) := by rw [IntKind.wrap_i64]; omega
  have f1 : decide (((sizeOfC x : Int) + (sizeOfC y : Int)) > 120) = false := by simp; omega
  have f2 : decide ((120 : Int) < (sizeOfC x : Int) + (sizeOfC y : Int)) = false := by simp; omega
  have f3 : decide (120 < sizeOfC x + sizeOfC y) = false := by simp; omega
  clear c2 hgz
  refine wp_region_hold C (.plain 0 (.sole 1 (.plain 2 (.plain 3 (.sole 4 (.plain 5 (.plain 6 (.plain 7 (.plain 8 (.plain 9 (.plain 10 (.plain 11 (.plain 12 (.plain 13 (.sole 14 (.sole 15 (.plain 16 (.plain 17 (.plain 18 (.plain 19 (.plain 21 (.sole 20 (.sole 22 (.plain 23 (.plain 24 (.plain 25 .done)))))))))))))))))))))))))) (Hcd.out _ HC.out) (by kernel_rfl) (by kernel_rfl) (fun c a d v w h => by cases d <;> exact h) ?_
  have HC := Lib.hid (Hcd.out _ HC.out)
  obtain ⟨wdr, hwdr⟩ : ∃ x, x = w1.drew := ⟨_, rfl⟩
  rw [← hwdr] at HC ⊢
  clear hwdr
  repeat (first
      | (refine' hold_skip ?_ ?_ ?_
         rotate_left 1
         · simp only [List.getElem?_toArray, List.getElem?_cons_zero]; exact rfl
         · exact rfl
         simp only [Act.put, List.setIfInBounds_toArray, List.set_cons_zero, List.set_cons_succ])
      | (refine' hold_want ?_ ?_ (fun K hK => ?_)
         rotate_left 1
         · simp only [List.getElem?_toArray, List.getElem?_cons_zero]; exact rfl
         · exact rfl
         first
         | (refine quiet_load_core _ rfl w.heap.size 0 _ rfl h7a ?_; refine hK _ ?_; clear hK K; try simp only [Act.put, List.setIfInBounds_toArray, List.set_cons_zero, List.set_cons_succ])
         | (refine quiet_load_core _ rfl (w.heap.size + 1) 0 _ rfl h7b ?_; refine hK _ ?_; clear hK K; try simp only [Act.put, List.setIfInBounds_toArray, List.set_cons_zero, List.set_cons_succ])
         | (go_big_quiet_op; refine hK _ ?_; clear hK K)))
  refine' hold_sole ?_ ?_ (fun K hK => ?_)
  rotate_left 1
  · simp only [List.getElem?_toArray, List.getElem?_cons_zero, List.getElem?_cons_succ]; exact rfl
  · exact rfl
  go_simp
  refine (Hbiga.out _ HC.out).mono ?_
  rintro e wa ⟨rfl, hb⟩
  refine hK _ _ (Hcw.out _ _ HC.out hb) ?_
  have HC := Lib.hid (Hcw.out _ _ HC.out hb)
  clear hb
  clear hK K
  try simp only [Act.put, List.setIfInBounds_toArray, List.set_cons_zero, List.set_cons_succ]
  repeat (first
      | (refine' hold_skip ?_ ?_ ?_
         rotate_left 1
         · simp only [List.getElem?_toArray, List.getElem?_cons_zero, List.getElem?_cons_succ]; exact rfl
         · exact rfl
         simp only [Act.put, List.setIfInBounds_toArray, List.set_cons_zero, List.set_cons_succ])
      | (refine' hold_want ?_ ?_ (fun K hK => ?_)
         rotate_left 1
         · simp only [List.getElem?_toArray, List.getElem?_cons_zero, List.getElem?_cons_succ]; exact rfl
         · exact rfl
         first
         | (refine quiet_load_core _ rfl w.heap.size 0 _ rfl h7a ?_; refine hK _ ?_; clear hK K; try simp only [Act.put, List.setIfInBounds_toArray, List.set_cons_zero, List.set_cons_succ])
         | (refine quiet_load_core _ rfl (w.heap.size + 1) 0 _ rfl h7b ?_; refine hK _ ?_; clear hK K; try simp only [Act.put, List.setIfInBounds_toArray, List.set_cons_zero, List.set_cons_succ])
         | (go_big_quiet_op; refine hK _ ?_; clear hK K)))
  refine' hold_sole ?_ ?_ (fun K hK => ?_)
  rotate_left 1
  · simp only [List.getElem?_toArray, List.getElem?_cons_zero, List.getElem?_cons_succ]; exact rfl
  · exact rfl
  go_simp
  refine (Hbigb.out _ HC.out).mono ?_
  rintro e wb ⟨rfl, hb⟩
  refine hK _ _ (Hcw.out _ _ HC.out hb) ?_
  have HC := Lib.hid (Hcw.out _ _ HC.out hb)
  clear hb
  clear hK K
  try simp only [Act.put, List.setIfInBounds_toArray, List.set_cons_zero, List.set_cons_succ]
  repeat (first
      | (refine' hold_skip ?_ ?_ ?_
         rotate_left 1
         · simp only [List.getElem?_toArray, List.getElem?_cons_zero, List.getElem?_cons_succ]; exact rfl
         · exact rfl
         simp only [Act.put, List.setIfInBounds_toArray, List.set_cons_zero, List.set_cons_succ])
      | (refine' hold_want ?_ ?_ (fun K hK => ?_)
         rotate_left 1
         · simp only [List.getElem?_toArray, List.getElem?_cons_zero, List.getElem?_cons_succ]; exact rfl
         · exact rfl
         first
         | (refine quiet_load_core _ rfl w.heap.size 0 _ rfl h7a ?_; refine hK _ ?_; clear hK K; try simp only [Act.put, List.setIfInBounds_toArray, List.set_cons_zero, List.set_cons_succ])
         | (refine quiet_load_core _ rfl (w.heap.size + 1) 0 _ rfl h7b ?_; refine hK _ ?_; clear hK K; try simp only [Act.put, List.setIfInBounds_toArray, List.set_cons_zero, List.set_cons_succ])
         | (go_big_quiet_op; refine hK _ ?_; clear hK K)))
  refine' hold_sole ?_ ?_ (fun K hK => ?_)
  rotate_left 1
  · simp only [List.getElem?_toArray, List.getElem?_cons_zero, List.getElem?_cons_succ]; exact rfl
  · exact rfl
  go_simp
  refine (seq_walk (HA.out _ HC.out) (HB.out _ HC.out)).mono ?_
  rintro e wc ⟨zs, rfl, hat, hb⟩
  refine hK _ _ (Hcw.out _ _ HC.out hb) ?_
  have HC := Lib.hid (Hcw.out _ _ HC.out hb)
  have AZ := Lib.hid hat
  clear hat
  clear hb
  clear hK K
  try simp only [Act.put, List.setIfInBounds_toArray, List.set_cons_zero, List.set_cons_succ]
  refine' hold_sole ?_ ?_ (fun K hK => ?_)
  rotate_left 1
  · simp only [List.getElem?_toArray, List.getElem?_cons_zero, List.getElem?_cons_succ]; exact rfl
  · exact rfl
  go_simp
  refine (Hgood.out _ _ AZ.out).mono ?_
  rintro e wg ⟨rfl, hb⟩
  refine hK _ _ (Hcw.out _ _ HC.out hb) ?_
  have HC := Lib.hid (Hcw.out _ _ HC.out hb)
  clear hb
  clear hK K
  try simp only [Act.put, List.setIfInBounds_toArray, List.set_cons_zero, List.set_cons_succ]
  repeat (first
      | (refine' hold_skip ?_ ?_ ?_
         rotate_left 1
         · simp only [List.getElem?_toArray, List.getElem?_cons_zero, List.getElem?_cons_succ]; exact rfl
         · exact rfl
         simp only [Act.put, List.setIfInBounds_toArray, List.set_cons_zero, List.set_cons_succ])
      | (refine' hold_want ?_ ?_ (fun K hK => ?_)
         rotate_left 1
         · simp only [List.getElem?_toArray, List.getElem?_cons_zero, List.getElem?_cons_succ]; exact rfl
         · exact rfl
         first
         | (refine quiet_load_core _ rfl w.heap.size 0 _ rfl h7a ?_; refine hK _ ?_; clear hK K; try simp only [Act.put, List.setIfInBounds_toArray, List.set_cons_zero, List.set_cons_succ])
         | (refine quiet_load_core _ rfl (w.heap.size + 1) 0 _ rfl h7b ?_; refine hK _ ?_; clear hK K; try simp only [Act.put, List.setIfInBounds_toArray, List.set_cons_zero, List.set_cons_succ])
         | (go_big_quiet_op; refine hK _ ?_; clear hK K)))
  refine' hold_sole ?_ ?_ (fun K hK => ?_)
  rotate_left 1
  · simp only [List.getElem?_toArray, List.getElem?_cons_zero, List.getElem?_cons_succ]; exact rfl
  · exact rfl
  go_simp
  refine (Hsza.out _ HC.out).mono ?_
  rintro e wsa ⟨rfl, hb⟩
  refine hK _ _ (Hcw.out _ _ HC.out hb) ?_
  have HC := Lib.hid (Hcw.out _ _ HC.out hb)
  clear hb
  clear hK K
  try simp only [Act.put, List.setIfInBounds_toArray, List.set_cons_zero, List.set_cons_succ]
  refine' hold_sole ?_ ?_ (fun K hK => ?_)
  rotate_left 1
  · simp only [List.getElem?_toArray, List.getElem?_cons_zero, List.getElem?_cons_succ]; exact rfl
  · exact rfl
  go_simp
  refine (Hszb.out _ HC.out).mono ?_
  rintro e wsb ⟨rfl, hb⟩
  refine hK _ _ (Hcw.out _ _ HC.out hb) ?_
  have HC := Lib.hid (Hcw.out _ _ HC.out hb)
  clear hb
  clear hK K
  try simp only [Act.put, List.setIfInBounds_toArray, List.set_cons_zero, List.set_cons_succ]
  repeat (first
      | (refine' hold_skip ?_ ?_ ?_
         rotate_left 1
         · simp only [List.getElem?_toArray, List.getElem?_cons_zero, List.getElem?_cons_succ]; exact rfl
         · exact rfl
         simp only [Act.put, List.setIfInBounds_toArray, List.set_cons_zero, List.set_cons_succ])
      | (refine' hold_want ?_ ?_ (fun K hK => ?_)
         rotate_left 1
         · simp only [List.getElem?_toArray, List.getElem?_cons_zero, List.getElem?_cons_succ]; exact rfl
         · exact rfl
         first
         | (refine quiet_load_core _ rfl w.heap.size 0 _ rfl h7a ?_; refine hK _ ?_; clear hK K; try simp only [Act.put, List.setIfInBounds_toArray, List.set_cons_zero, List.set_cons_succ])
         | (refine quiet_load_core _ rfl (w.heap.size + 1) 0 _ rfl h7b ?_; refine hK _ ?_; clear hK K; try simp only [Act.put, List.setIfInBounds_toArray, List.set_cons_zero, List.set_cons_succ])
         | (go_big_quiet_op; refine hK _ ?_; clear hK K)))
  refine hold_done ?_
  clear d1 d2 d3 e1 f1 f2 f3 b1 b2 Hbiga Hbigb Hgood
  have hcap : ∀ i, i ≤ n → True := fun _ _ => trivial
  clear hcap
  go_wp2_with fail
  go_loopw [7, 8] (fun v i wr => ∃ j : Nat, i = .int .i64 j ∧ j ≤ n + 1 ∧ v = .bool (anyUpTo (catHere x y l) j) ∧ C wr) (fun _ i _ => n + 1 - (intOf i).toNat)
  case atStart => exact ⟨0, rfl, Nat.zero_le _, rfl, HC.out⟩
  case round =>
    obtain ⟨j, rfl, hj, rfl, hCr⟩ := hrel
    have HC := Lib.hid hCr
    by_cases hjn : j ≤ n
    · have hd : decide ((j : Int) ≤ (n : Int)) = true := by simp; omega
      have hd2 : decide (j ≤ n) = true := by simp; omega
      obtain ⟨ta, hrt, hbt⟩ := run_take hjn Hl0.out
      obtain ⟨da, hrd, hbd⟩ := run_drop (cap := cap) (l := l) (a := a) hjn
      have Hbt := Lib.hid (fun w' (h : C w') => hbt w' (HL.out w' h))
      have Hbd := Lib.hid (fun w' (h : C w') => hbd w' (HL.out w' h))
      have hstep : anyUpTo (catHere x y l) (j + 1) = (anyUpTo (catHere x y l) j || (saysC x (l.take j) && saysC y (l.drop j))) := rfl
      have Hstep := Lib.hid hstep
      clear hstep hbt hbd hCr
      generalize anyUpTo (catHere x y l) j = v0 at *
      have Hsx := Lib.hid (fun w' (h : C w') => lang_says (HA.out w' h) (Hbt.out w' h))
      have Hsy := Lib.hid (fun w' (h : C w') => lang_says (HB.out w' h) (Hbd.out w' h))
      generalize saysC x (l.take j) = p1 at *
      generalize saysC y (l.drop j) = p2 at *
      cases v0
      case true =>
        have Hs := Lib.hid (show anyUpTo (catHere x y l) (j + 1) = true by rw [Hstep.out]; rfl)
        go_upto_region 9 with fail
        refine wp_region_hold C (.plain 0 (.plain 1 (.plain 2 (.plain 3 (.plain 4 (.plain 5 (.sole 6 (.plain 7 (.plain 8 (.plain 9 (.plain 10 (.plain 11 (.sole 12 (.plain 13 (.plain 14 (.plain 15 .done)))))))))))))))) (Hcd.out _ HC.out) (by kernel_rfl) (by kernel_rfl) (fun c a d v w h => by cases d <;> exact h) ?_
        have HC := Lib.hid (Hcd.out _ HC.out)
        obtain ⟨wdr, hwdr⟩ : ∃ x, x = wr.drew := ⟨_, rfl⟩
        rw [← hwdr] at HC ⊢
        clear hwdr
        repeat (first
            | (refine' hold_skip ?_ ?_ ?_
               rotate_left 1
               · simp only [List.getElem?_toArray, List.getElem?_cons_zero, List.getElem?_cons_succ]; exact rfl
               · exact rfl
               simp only [Act.put, List.setIfInBounds_toArray, List.set_cons_zero, List.set_cons_succ])
            | (refine' hold_want ?_ ?_ (fun K hK => ?_)
               rotate_left 1
               · simp only [List.getElem?_toArray, List.getElem?_cons_zero, List.getElem?_cons_succ]; exact rfl
               · exact rfl
               first
               | (refine quiet_load_core _ rfl w.heap.size 0 _ rfl h7a ?_; refine hK _ ?_; clear hK K; try simp only [Act.put, List.setIfInBounds_toArray, List.set_cons_zero, List.set_cons_succ])
               | (refine quiet_load_core _ rfl (w.heap.size + 1) 0 _ rfl h7b ?_; refine hK _ ?_; clear hK K; try simp only [Act.put, List.setIfInBounds_toArray, List.set_cons_zero, List.set_cons_succ])
               | (refine quiet_slice_hi _ _ rfl _ _ _ rfl rfl hrt ?_; refine hK _ ?_; clear hK K; try simp only [Act.put, List.setIfInBounds_toArray, List.set_cons_zero, List.set_cons_succ])
               | (refine quiet_slice_lo _ _ rfl _ _ _ rfl rfl hrd ?_; refine hK _ ?_; clear hK K; try simp only [Act.put, List.setIfInBounds_toArray, List.set_cons_zero, List.set_cons_succ])
               | (go_big_quiet_op; refine hK _ ?_; clear hK K)))
        refine' hold_sole_skip ?_ ?_ ?_
        rotate_left 1
        · simp only [List.getElem?_toArray, List.getElem?_cons_zero, List.getElem?_cons_succ]; exact rfl
        · exact rfl
        try simp only [Act.put, List.setIfInBounds_toArray, List.set_cons_zero, List.set_cons_succ]
        repeat (first
            | (refine' hold_skip ?_ ?_ ?_
               rotate_left 1
               · simp only [List.getElem?_toArray, List.getElem?_cons_zero, List.getElem?_cons_succ]; exact rfl
               · exact rfl
               simp only [Act.put, List.setIfInBounds_toArray, List.set_cons_zero, List.set_cons_succ])
            | (refine' hold_want ?_ ?_ (fun K hK => ?_)
               rotate_left 1
               · simp only [List.getElem?_toArray, List.getElem?_cons_zero, List.getElem?_cons_succ]; exact rfl
               · exact rfl
               first
               | (refine quiet_load_core _ rfl w.heap.size 0 _ rfl h7a ?_; refine hK _ ?_; clear hK K; try simp only [Act.put, List.setIfInBounds_toArray, List.set_cons_zero, List.set_cons_succ])
               | (refine quiet_load_core _ rfl (w.heap.size + 1) 0 _ rfl h7b ?_; refine hK _ ?_; clear hK K; try simp only [Act.put, List.setIfInBounds_toArray, List.set_cons_zero, List.set_cons_succ])
               | (refine quiet_slice_hi _ _ rfl _ _ _ rfl rfl hrt ?_; refine hK _ ?_; clear hK K; try simp only [Act.put, List.setIfInBounds_toArray, List.set_cons_zero, List.set_cons_succ])
               | (refine quiet_slice_lo _ _ rfl _ _ _ rfl rfl hrd ?_; refine hK _ ?_; clear hK K; try simp only [Act.put, List.setIfInBounds_toArray, List.set_cons_zero, List.set_cons_succ])
               | (go_big_quiet_op; refine hK _ ?_; clear hK K)))
        refine' hold_sole_skip ?_ ?_ ?_
        rotate_left 1
        · simp only [List.getElem?_toArray, List.getElem?_cons_zero, List.getElem?_cons_succ]; exact rfl
        · exact rfl
        try simp only [Act.put, List.setIfInBounds_toArray, List.set_cons_zero, List.set_cons_succ]
        repeat (first
            | (refine' hold_skip ?_ ?_ ?_
               rotate_left 1
               · simp only [List.getElem?_toArray, List.getElem?_cons_zero, List.getElem?_cons_succ]; exact rfl
               · exact rfl
               simp only [Act.put, List.setIfInBounds_toArray, List.set_cons_zero, List.set_cons_succ])
            | (refine' hold_want ?_ ?_ (fun K hK => ?_)
               rotate_left 1
               · simp only [List.getElem?_toArray, List.getElem?_cons_zero, List.getElem?_cons_succ]; exact rfl
               · exact rfl
               first
               | (refine quiet_load_core _ rfl w.heap.size 0 _ rfl h7a ?_; refine hK _ ?_; clear hK K; try simp only [Act.put, List.setIfInBounds_toArray, List.set_cons_zero, List.set_cons_succ])
               | (refine quiet_load_core _ rfl (w.heap.size + 1) 0 _ rfl h7b ?_; refine hK _ ?_; clear hK K; try simp only [Act.put, List.setIfInBounds_toArray, List.set_cons_zero, List.set_cons_succ])
               | (refine quiet_slice_hi _ _ rfl _ _ _ rfl rfl hrt ?_; refine hK _ ?_; clear hK K; try simp only [Act.put, List.setIfInBounds_toArray, List.set_cons_zero, List.set_cons_succ])
               | (refine quiet_slice_lo _ _ rfl _ _ _ rfl rfl hrd ?_; refine hK _ ?_; clear hK K; try simp only [Act.put, List.setIfInBounds_toArray, List.set_cons_zero, List.set_cons_succ])
               | (go_big_quiet_op; refine hK _ ?_; clear hK K)))
        refine hold_done ?_
        have HCf := Lib.hid HC.out
        clear hrt hrd h7a h7b
        go_wp2_with fail
        go_roundw
        case rel => exact ⟨j + 1, by go_num, by omega, by rw [Hs.out], HCf.out⟩
        case measure => simp [intOf]; omega
      cases p1
      case false =>
        have Hs := Lib.hid (show anyUpTo (catHere x y l) (j + 1) = false by rw [Hstep.out]; rfl)
        go_upto_region 9 with fail
        refine wp_region_hold C (.plain 0 (.plain 1 (.plain 2 (.plain 3 (.plain 4 (.plain 5 (.sole 6 (.plain 7 (.plain 8 (.plain 9 (.plain 10 (.plain 11 (.sole 12 (.plain 13 (.plain 14 (.plain 15 .done)))))))))))))))) (Hcd.out _ HC.out) (by kernel_rfl) (by kernel_rfl) (fun c a d v w h => by cases d <;> exact h) ?_
        have HC := Lib.hid (Hcd.out _ HC.out)
        obtain ⟨wdr, hwdr⟩ : ∃ x, x = wr.drew := ⟨_, rfl⟩
        rw [← hwdr] at HC ⊢
        clear hwdr
        repeat (first
            | (refine' hold_skip ?_ ?_ ?_
               rotate_left 1
               · simp only [List.getElem?_toArray, List.getElem?_cons_zero, List.getElem?_cons_succ]; exact rfl
               · exact rfl
               simp only [Act.put, List.setIfInBounds_toArray, List.set_cons_zero, List.set_cons_succ])
            | (refine' hold_want ?_ ?_ (fun K hK => ?_)
               rotate_left 1
               · simp only [List.getElem?_toArray, List.getElem?_cons_zero, List.getElem?_cons_succ]; exact rfl
               · exact rfl
               first
               | (refine quiet_load_core _ rfl w.heap.size 0 _ rfl h7a ?_; refine hK _ ?_; clear hK K; try simp only [Act.put, List.setIfInBounds_toArray, List.set_cons_zero, List.set_cons_succ])
               | (refine quiet_load_core _ rfl (w.heap.size + 1) 0 _ rfl h7b ?_; refine hK _ ?_; clear hK K; try simp only [Act.put, List.setIfInBounds_toArray, List.set_cons_zero, List.set_cons_succ])
               | (refine quiet_slice_hi _ _ rfl _ _ _ rfl rfl hrt ?_; refine hK _ ?_; clear hK K; try simp only [Act.put, List.setIfInBounds_toArray, List.set_cons_zero, List.set_cons_succ])
               | (refine quiet_slice_lo _ _ rfl _ _ _ rfl rfl hrd ?_; refine hK _ ?_; clear hK K; try simp only [Act.put, List.setIfInBounds_toArray, List.set_cons_zero, List.set_cons_succ])
               | (go_big_quiet_op; refine hK _ ?_; clear hK K)))
        refine' hold_sole ?_ ?_ (fun K hK => ?_)
        rotate_left 1
        · simp only [List.getElem?_toArray, List.getElem?_cons_zero, List.getElem?_cons_succ]; exact rfl
        · exact rfl
        go_simp
        refine (Hsx.out _ HC.out).mono ?_
        rintro e wx ⟨rfl, hb⟩
        refine hK _ _ (Hcw.out _ _ HC.out hb) ?_
        have HC := Lib.hid (Hcw.out _ _ HC.out hb)
        clear hb
        clear hK K
        try simp only [Act.put, List.setIfInBounds_toArray, List.set_cons_zero, List.set_cons_succ]
        repeat (first
            | (refine' hold_skip ?_ ?_ ?_
               rotate_left 1
               · simp only [List.getElem?_toArray, List.getElem?_cons_zero, List.getElem?_cons_succ]; exact rfl
               · exact rfl
               simp only [Act.put, List.setIfInBounds_toArray, List.set_cons_zero, List.set_cons_succ])
            | (refine' hold_want ?_ ?_ (fun K hK => ?_)
               rotate_left 1
               · simp only [List.getElem?_toArray, List.getElem?_cons_zero, List.getElem?_cons_succ]; exact rfl
               · exact rfl
               first
               | (refine quiet_load_core _ rfl w.heap.size 0 _ rfl h7a ?_; refine hK _ ?_; clear hK K; try simp only [Act.put, List.setIfInBounds_toArray, List.set_cons_zero, List.set_cons_succ])
               | (refine quiet_load_core _ rfl (w.heap.size + 1) 0 _ rfl h7b ?_; refine hK _ ?_; clear hK K; try simp only [Act.put, List.setIfInBounds_toArray, List.set_cons_zero, List.set_cons_succ])
               | (refine quiet_slice_hi _ _ rfl _ _ _ rfl rfl hrt ?_; refine hK _ ?_; clear hK K; try simp only [Act.put, List.setIfInBounds_toArray, List.set_cons_zero, List.set_cons_succ])
               | (refine quiet_slice_lo _ _ rfl _ _ _ rfl rfl hrd ?_; refine hK _ ?_; clear hK K; try simp only [Act.put, List.setIfInBounds_toArray, List.set_cons_zero, List.set_cons_succ])
               | (go_big_quiet_op; refine hK _ ?_; clear hK K)))
        refine' hold_sole_skip ?_ ?_ ?_
        rotate_left 1
        · simp only [List.getElem?_toArray, List.getElem?_cons_zero, List.getElem?_cons_succ]; exact rfl
        · exact rfl
        try simp only [Act.put, List.setIfInBounds_toArray, List.set_cons_zero, List.set_cons_succ]
        repeat (first
            | (refine' hold_skip ?_ ?_ ?_
               rotate_left 1
               · simp only [List.getElem?_toArray, List.getElem?_cons_zero, List.getElem?_cons_succ]; exact rfl
               · exact rfl
               simp only [Act.put, List.setIfInBounds_toArray, List.set_cons_zero, List.set_cons_succ])
            | (refine' hold_want ?_ ?_ (fun K hK => ?_)
               rotate_left 1
               · simp only [List.getElem?_toArray, List.getElem?_cons_zero, List.getElem?_cons_succ]; exact rfl
               · exact rfl
               first
               | (refine quiet_load_core _ rfl w.heap.size 0 _ rfl h7a ?_; refine hK _ ?_; clear hK K; try simp only [Act.put, List.setIfInBounds_toArray, List.set_cons_zero, List.set_cons_succ])
               | (refine quiet_load_core _ rfl (w.heap.size + 1) 0 _ rfl h7b ?_; refine hK _ ?_; clear hK K; try simp only [Act.put, List.setIfInBounds_toArray, List.set_cons_zero, List.set_cons_succ])
               | (refine quiet_slice_hi _ _ rfl _ _ _ rfl rfl hrt ?_; refine hK _ ?_; clear hK K; try simp only [Act.put, List.setIfInBounds_toArray, List.set_cons_zero, List.set_cons_succ])
               | (refine quiet_slice_lo _ _ rfl _ _ _ rfl rfl hrd ?_; refine hK _ ?_; clear hK K; try simp only [Act.put, List.setIfInBounds_toArray, List.set_cons_zero, List.set_cons_succ])
               | (go_big_quiet_op; refine hK _ ?_; clear hK K)))
        refine hold_done ?_
        have HCf := Lib.hid HC.out
        clear hrt hrd h7a h7b
        go_wp2_with fail
        go_roundw
        case rel => exact ⟨j + 1, by go_num, by omega, by rw [Hs.out], HCf.out⟩
        case measure => simp [intOf]; omega
      have Hs := Lib.hid (show anyUpTo (catHere x y l) (j + 1) = p2 by rw [Hstep.out]; simp)
      go_upto_region 9 with fail
      refine wp_region_hold C (.plain 0 (.plain 1 (.plain 2 (.plain 3 (.plain 4 (.plain 5 (.sole 6 (.plain 7 (.plain 8 (.plain 9 (.plain 10 (.plain 11 (.sole 12 (.plain 13 (.plain 14 (.plain 15 .done)))))))))))))))) (Hcd.out _ HC.out) (by kernel_rfl) (by kernel_rfl) (fun c a d v w h => by cases d <;> exact h) ?_
      have HC := Lib.hid (Hcd.out _ HC.out)
      obtain ⟨wdr, hwdr⟩ : ∃ x, x = wr.drew := ⟨_, rfl⟩
      rw [← hwdr] at HC ⊢
      clear hwdr
      repeat (first
          | (refine' hold_skip ?_ ?_ ?_
             rotate_left 1
             · simp only [List.getElem?_toArray, List.getElem?_cons_zero, List.getElem?_cons_succ]; exact rfl
             · exact rfl
             simp only [Act.put, List.setIfInBounds_toArray, List.set_cons_zero, List.set_cons_succ])
          | (refine' hold_want ?_ ?_ (fun K hK => ?_)
             rotate_left 1
             · simp only [List.getElem?_toArray, List.getElem?_cons_zero, List.getElem?_cons_succ]; exact rfl
             · exact rfl
             first
             | (refine quiet_load_core _ rfl w.heap.size 0 _ rfl h7a ?_; refine hK _ ?_; clear hK K; try simp only [Act.put, List.setIfInBounds_toArray, List.set_cons_zero, List.set_cons_succ])
             | (refine quiet_load_core _ rfl (w.heap.size + 1) 0 _ rfl h7b ?_; refine hK _ ?_; clear hK K; try simp only [Act.put, List.setIfInBounds_toArray, List.set_cons_zero, List.set_cons_succ])
             | (refine quiet_slice_hi _ _ rfl _ _ _ rfl rfl hrt ?_; refine hK _ ?_; clear hK K; try simp only [Act.put, List.setIfInBounds_toArray, List.set_cons_zero, List.set_cons_succ])
             | (refine quiet_slice_lo _ _ rfl _ _ _ rfl rfl hrd ?_; refine hK _ ?_; clear hK K; try simp only [Act.put, List.setIfInBounds_toArray, List.set_cons_zero, List.set_cons_succ])
             | (go_big_quiet_op; refine hK _ ?_; clear hK K)))
      refine' hold_sole ?_ ?_ (fun K hK => ?_)
      rotate_left 1
      · simp only [List.getElem?_toArray, List.getElem?_cons_zero, List.getElem?_cons_succ]; exact rfl
      · exact rfl
      go_simp
      refine (Hsx.out _ HC.out).mono ?_
      rintro e wx ⟨rfl, hb⟩
      refine hK _ _ (Hcw.out _ _ HC.out hb) ?_
      have HC := Lib.hid (Hcw.out _ _ HC.out hb)
      clear hb
      clear hK K
      try simp only [Act.put, List.setIfInBounds_toArray, List.set_cons_zero, List.set_cons_succ]
      repeat (first
          | (refine' hold_skip ?_ ?_ ?_
             rotate_left 1
             · simp only [List.getElem?_toArray, List.getElem?_cons_zero, List.getElem?_cons_succ]; exact rfl
             · exact rfl
             simp only [Act.put, List.setIfInBounds_toArray, List.set_cons_zero, List.set_cons_succ])
          | (refine' hold_want ?_ ?_ (fun K hK => ?_)
             rotate_left 1
             · simp only [List.getElem?_toArray, List.getElem?_cons_zero, List.getElem?_cons_succ]; exact rfl
             · exact rfl
             first
             | (refine quiet_load_core _ rfl w.heap.size 0 _ rfl h7a ?_; refine hK _ ?_; clear hK K; try simp only [Act.put, List.setIfInBounds_toArray, List.set_cons_zero, List.set_cons_succ])
             | (refine quiet_load_core _ rfl (w.heap.size + 1) 0 _ rfl h7b ?_; refine hK _ ?_; clear hK K; try simp only [Act.put, List.setIfInBounds_toArray, List.set_cons_zero, List.set_cons_succ])
             | (refine quiet_slice_hi _ _ rfl _ _ _ rfl rfl hrt ?_; refine hK _ ?_; clear hK K; try simp only [Act.put, List.setIfInBounds_toArray, List.set_cons_zero, List.set_cons_succ])
             | (refine quiet_slice_lo _ _ rfl _ _ _ rfl rfl hrd ?_; refine hK _ ?_; clear hK K; try simp only [Act.put, List.setIfInBounds_toArray, List.set_cons_zero, List.set_cons_succ])
             | (go_big_quiet_op; refine hK _ ?_; clear hK K)))
      refine' hold_sole ?_ ?_ (fun K hK => ?_)
      rotate_left 1
      · simp only [List.getElem?_toArray, List.getElem?_cons_zero, List.getElem?_cons_succ]; exact rfl
      · exact rfl
      go_simp
      refine (Hsy.out _ HC.out).mono ?_
      rintro e wy ⟨rfl, hb⟩
      refine hK _ _ (Hcw.out _ _ HC.out hb) ?_
      have HC := Lib.hid (Hcw.out _ _ HC.out hb)
      clear hb
      clear hK K
      try simp only [Act.put, List.setIfInBounds_toArray, List.set_cons_zero, List.set_cons_succ]
      repeat (first
          | (refine' hold_skip ?_ ?_ ?_
             rotate_left 1
             · simp only [List.getElem?_toArray, List.getElem?_cons_zero, List.getElem?_cons_succ]; exact rfl
             · exact rfl
             simp only [Act.put, List.setIfInBounds_toArray, List.set_cons_zero, List.set_cons_succ])
          | (refine' hold_want ?_ ?_ (fun K hK => ?_)
             rotate_left 1
             · simp only [List.getElem?_toArray, List.getElem?_cons_zero, List.getElem?_cons_succ]; exact rfl
             · exact rfl
             first
             | (refine quiet_load_core _ rfl w.heap.size 0 _ rfl h7a ?_; refine hK _ ?_; clear hK K; try simp only [Act.put, List.setIfInBounds_toArray, List.set_cons_zero, List.set_cons_succ])
             | (refine quiet_load_core _ rfl (w.heap.size + 1) 0 _ rfl h7b ?_; refine hK _ ?_; clear hK K; try simp only [Act.put, List.setIfInBounds_toArray, List.set_cons_zero, List.set_cons_succ])
             | (refine quiet_slice_hi _ _ rfl _ _ _ rfl rfl hrt ?_; refine hK _ ?_; clear hK K; try simp only [Act.put, List.setIfInBounds_toArray, List.set_cons_zero, List.set_cons_succ])
             | (refine quiet_slice_lo _ _ rfl _ _ _ rfl rfl hrd ?_; refine hK _ ?_; clear hK K; try simp only [Act.put, List.setIfInBounds_toArray, List.set_cons_zero, List.set_cons_succ])
             | (go_big_quiet_op; refine hK _ ?_; clear hK K)))
      refine hold_done ?_
      have HCf := Lib.hid HC.out
      clear hrt hrd h7a h7b
      go_wp2_with fail
      go_roundw
      case rel => exact ⟨j + 1, by go_num, by omega, by rw [Hs.out], HCf.out⟩
      case measure => simp [intOf]; omega
    · have hj1 : j = n + 1 := by omega
      have hd : decide ((j : Int) ≤ (n : Int)) = false := by simp; omega
      have hd2 : decide (j ≤ n) = false := by simp; omega
      have E1 : Hid (saysC (.mk 3 0 0 [x, y]) l = anyUpTo (catHere x y l) j) := by
        have h := HF.out
        rw [hj1, Hn.out]
        exact cat_says h.1.1 h.1.2.1 h.2 (by have := Hn.out; omega) Hlt.out
      clear hj1 hjn hj
      have e0 : ((n : Int) == 0) = decide (l.length = 0) := by rw [Hn.out, Bool.eq_iff_iff, beq_iff_eq, decide_eq_true_eq]; omega
      clear hCr
      generalize anyUpTo (catHere x y l) j = p1 at *
      obtain ⟨z0, hz0⟩ : ∃ z, decide (l.length = 0) = z := ⟨_, rfl⟩
      rw [hz0] at e0
      have Hz0 := Lib.hid hz0
      clear hz0
      go_wp2_with fail
      go_loopw [9, 10] (fun v i wr => ∃ j : Nat, i = .int .i64 ((j + 1 : Nat) : Int) ∧ j ≤ n ∧ v = .bool (z0 || anyUpTo (fun i => catHere x (.mk 5 0 0 [x]) l (i + 1)) j) ∧ C wr) (fun _ i _ => n + 1 - (intOf i).toNat)
      case atStart => exact ⟨0, rfl, Nat.zero_le _, by simp [anyUpTo], HC.out⟩
      case round =>
        obtain ⟨j, rfl, hj, rfl, hCr⟩ := hrel
        have HC := Lib.hid hCr
        have hpj : ((j + 1 : Nat) : Int) = (j : Int) + 1 := by omega
        by_cases hjn : j + 1 ≤ n
        · have hd : decide ((j : Int) + 1 ≤ (n : Int)) = true := by simp; omega
          have hd2 : decide (j + 1 ≤ n) = true := by simp; omega
          have hd4 : decide (((j + 1 : Nat) : Int) ≤ (n : Int)) = true := by simp; omega
          obtain ⟨ta, hrt, hbt⟩ := run_take hjn Hl0.out
          obtain ⟨da, hrd, hbd⟩ := run_drop (cap := cap) (l := l) (a := a) hjn
          have Hbt := Lib.hid (fun w' (h : C w') => hbt w' (HL.out w' h))
          have Hbd := Lib.hid (fun w' (h : C w') => hbd w' (HL.out w' h))
          have hstep : (z0 || anyUpTo (fun i => catHere x (.mk 5 0 0 [x]) l (i + 1)) (j + 1)) = ((z0 || anyUpTo (fun i => catHere x (.mk 5 0 0 [x]) l (i + 1)) j) || (saysC x (l.take (j + 1)) && saysC (.mk 5 0 0 [x]) (l.drop (j + 1)))) := by
            rw [Bool.or_assoc]; rfl
          have Hstep := Lib.hid hstep
          clear hstep hbt hbd hCr
          generalize (z0 || anyUpTo (fun i => catHere x (.mk 5 0 0 [x]) l (i + 1)) j) = v0 at *
          have Hsx := Lib.hid (fun w' (h : C w') => lang_says (HA.out w' h) (Hbt.out w' h))
          have Hsy := Lib.hid (fun w' zs (h : C w') (hz : Cr.at w' (.mk 5 0 0 [x]) zs) => lang_says hz (Hbd.out w' h))
          generalize saysC x (l.take (j + 1)) = q1 at *
          generalize saysC (.mk 5 0 0 [x]) (l.drop (j + 1)) = q2 at *
          obtain ⟨J, hJ⟩ : ∃ J : Nat, J = j + 1 := ⟨_, rfl⟩
          have HJ := Lib.hid hJ
          rw [← hJ] at hrt hrd hjn hd2 hd4 hpj Hstep Hsx Hsy ⊢
          rw [← hpj] at hd
          clear hJ
          cases v0
          case true =>
            have Hs := Lib.hid (show (z0 || anyUpTo (fun i => catHere x (.mk 5 0 0 [x]) l (i + 1)) J) = true by rw [Hstep.out]; rfl)
            clear hpj
            go_upto_region 14 with fail
            refine wp_region_hold C (.plain 0 (.plain 1 (.plain 2 (.plain 3 (.plain 4 (.plain 5 (.sole 6 (.plain 7 (.plain 8 (.plain 10 (.plain 11 (.plain 12 (.sole 9 (.sole 13 (.plain 14 (.plain 15 (.plain 16 .done))))))))))))))))) (Hcd.out _ HC.out) (by kernel_rfl) (by kernel_rfl) (fun c a d v w h => by cases d <;> exact h) ?_
            have HC := Lib.hid (Hcd.out _ HC.out)
            obtain ⟨wdr, hwdr⟩ : ∃ x, x = wr.drew := ⟨_, rfl⟩
            rw [← hwdr] at HC ⊢
            clear hwdr
            repeat (first
                | (refine' hold_skip ?_ ?_ ?_
                   rotate_left 1
                   · simp only [List.getElem?_toArray, List.getElem?_cons_zero, List.getElem?_cons_succ]; exact rfl
                   · exact rfl
                   simp only [Act.put, List.setIfInBounds_toArray, List.set_cons_zero, List.set_cons_succ])
                | (refine' hold_want ?_ ?_ (fun K hK => ?_)
                   rotate_left 1
                   · simp only [List.getElem?_toArray, List.getElem?_cons_zero, List.getElem?_cons_succ]; exact rfl
                   · exact rfl
                   first
                   | (refine quiet_load_core _ rfl w.heap.size 0 _ rfl h7a ?_; refine hK _ ?_; clear hK K; try simp only [Act.put, List.setIfInBounds_toArray, List.set_cons_zero, List.set_cons_succ])
                   | (refine quiet_load_core _ rfl (w.heap.size + 1) 0 _ rfl h7b ?_; refine hK _ ?_; clear hK K; try simp only [Act.put, List.setIfInBounds_toArray, List.set_cons_zero, List.set_cons_succ])
                   | (refine quiet_slice_hi _ _ rfl _ _ _ rfl rfl hrt ?_; refine hK _ ?_; clear hK K; try simp only [Act.put, List.setIfInBounds_toArray, List.set_cons_zero, List.set_cons_succ])
                   | (refine quiet_slice_lo _ _ rfl _ _ _ rfl rfl hrd ?_; refine hK _ ?_; clear hK K; try simp only [Act.put, List.setIfInBounds_toArray, List.set_cons_zero, List.set_cons_succ])
                   | (go_big_quiet_op; refine hK _ ?_; clear hK K)))
            refine' hold_sole_skip ?_ ?_ ?_
            rotate_left 1
            · simp only [List.getElem?_toArray, List.getElem?_cons_zero, List.getElem?_cons_succ]; exact rfl
            · exact rfl
            try simp only [Act.put, List.setIfInBounds_toArray, List.set_cons_zero, List.set_cons_succ]
            repeat (first
                | (refine' hold_skip ?_ ?_ ?_
                   rotate_left 1
                   · simp only [List.getElem?_toArray, List.getElem?_cons_zero, List.getElem?_cons_succ]; exact rfl
                   · exact rfl
                   simp only [Act.put, List.setIfInBounds_toArray, List.set_cons_zero, List.set_cons_succ])
                | (refine' hold_want ?_ ?_ (fun K hK => ?_)
                   rotate_left 1
                   · simp only [List.getElem?_toArray, List.getElem?_cons_zero, List.getElem?_cons_succ]; exact rfl
                   · exact rfl
                   first
                   | (refine quiet_load_core _ rfl w.heap.size 0 _ rfl h7a ?_; refine hK _ ?_; clear hK K; try simp only [Act.put, List.setIfInBounds_toArray, List.set_cons_zero, List.set_cons_succ])
                   | (refine quiet_load_core _ rfl (w.heap.size + 1) 0 _ rfl h7b ?_; refine hK _ ?_; clear hK K; try simp only [Act.put, List.setIfInBounds_toArray, List.set_cons_zero, List.set_cons_succ])
                   | (refine quiet_slice_hi _ _ rfl _ _ _ rfl rfl hrt ?_; refine hK _ ?_; clear hK K; try simp only [Act.put, List.setIfInBounds_toArray, List.set_cons_zero, List.set_cons_succ])
                   | (refine quiet_slice_lo _ _ rfl _ _ _ rfl rfl hrd ?_; refine hK _ ?_; clear hK K; try simp only [Act.put, List.setIfInBounds_toArray, List.set_cons_zero, List.set_cons_succ])
                   | (go_big_quiet_op; refine hK _ ?_; clear hK K)))
            refine' hold_sole_skip ?_ ?_ ?_
            rotate_left 1
            · simp only [List.getElem?_toArray, List.getElem?_cons_zero, List.getElem?_cons_succ]; exact rfl
            · exact rfl
            try simp only [Act.put, List.setIfInBounds_toArray, List.set_cons_zero, List.set_cons_succ]
            refine' hold_sole_skip ?_ ?_ ?_
            rotate_left 1
            · simp only [List.getElem?_toArray, List.getElem?_cons_zero, List.getElem?_cons_succ]; exact rfl
            · exact rfl
            try simp only [Act.put, List.setIfInBounds_toArray, List.set_cons_zero, List.set_cons_succ]
            repeat (first
                | (refine' hold_skip ?_ ?_ ?_
                   rotate_left 1
                   · simp only [List.getElem?_toArray, List.getElem?_cons_zero, List.getElem?_cons_succ]; exact rfl
                   · exact rfl
                   simp only [Act.put, List.setIfInBounds_toArray, List.set_cons_zero, List.set_cons_succ])
                | (refine' hold_want ?_ ?_ (fun K hK => ?_)
                   rotate_left 1
                   · simp only [List.getElem?_toArray, List.getElem?_cons_zero, List.getElem?_cons_succ]; exact rfl
                   · exact rfl
                   first
                   | (refine quiet_load_core _ rfl w.heap.size 0 _ rfl h7a ?_; refine hK _ ?_; clear hK K; try simp only [Act.put, List.setIfInBounds_toArray, List.set_cons_zero, List.set_cons_succ])
                   | (refine quiet_load_core _ rfl (w.heap.size + 1) 0 _ rfl h7b ?_; refine hK _ ?_; clear hK K; try simp only [Act.put, List.setIfInBounds_toArray, List.set_cons_zero, List.set_cons_succ])
                   | (refine quiet_slice_hi _ _ rfl _ _ _ rfl rfl hrt ?_; refine hK _ ?_; clear hK K; try simp only [Act.put, List.setIfInBounds_toArray, List.set_cons_zero, List.set_cons_succ])
                   | (refine quiet_slice_lo _ _ rfl _ _ _ rfl rfl hrd ?_; refine hK _ ?_; clear hK K; try simp only [Act.put, List.setIfInBounds_toArray, List.set_cons_zero, List.set_cons_succ])
                   | (go_big_quiet_op; refine hK _ ?_; clear hK K)))
            refine hold_done ?_
            have HCf := Lib.hid HC.out
            clear hrt hrd h7a h7b
            go_wp2_with fail
            go_roundw
            case rel => exact ⟨J, by go_num, hjn, by rw [Hs.out], HCf.out⟩
            case measure => have := HJ.out; simp [intOf]; omega
          cases q1
          case false =>
            have Hs := Lib.hid (show (z0 || anyUpTo (fun i => catHere x (.mk 5 0 0 [x]) l (i + 1)) J) = false by rw [Hstep.out]; rfl)
            clear hpj
            go_upto_region 14 with fail
            refine wp_region_hold C (.plain 0 (.plain 1 (.plain 2 (.plain 3 (.plain 4 (.plain 5 (.sole 6 (.plain 7 (.plain 8 (.plain 10 (.plain 11 (.plain 12 (.sole 9 (.sole 13 (.plain 14 (.plain 15 (.plain 16 .done))))))))))))))))) (Hcd.out _ HC.out) (by kernel_rfl) (by kernel_rfl) (fun c a d v w h => by cases d <;> exact h) ?_
            have HC := Lib.hid (Hcd.out _ HC.out)
            obtain ⟨wdr, hwdr⟩ : ∃ x, x = wr.drew := ⟨_, rfl⟩
            rw [← hwdr] at HC ⊢
            clear hwdr
            repeat (first
                | (refine' hold_skip ?_ ?_ ?_
                   rotate_left 1
                   · simp only [List.getElem?_toArray, List.getElem?_cons_zero, List.getElem?_cons_succ]; exact rfl
                   · exact rfl
                   simp only [Act.put, List.setIfInBounds_toArray, List.set_cons_zero, List.set_cons_succ])
                | (refine' hold_want ?_ ?_ (fun K hK => ?_)
                   rotate_left 1
                   · simp only [List.getElem?_toArray, List.getElem?_cons_zero, List.getElem?_cons_succ]; exact rfl
                   · exact rfl
                   first
                   | (refine quiet_load_core _ rfl w.heap.size 0 _ rfl h7a ?_; refine hK _ ?_; clear hK K; try simp only [Act.put, List.setIfInBounds_toArray, List.set_cons_zero, List.set_cons_succ])
                   | (refine quiet_load_core _ rfl (w.heap.size + 1) 0 _ rfl h7b ?_; refine hK _ ?_; clear hK K; try simp only [Act.put, List.setIfInBounds_toArray, List.set_cons_zero, List.set_cons_succ])
                   | (refine quiet_slice_hi _ _ rfl _ _ _ rfl rfl hrt ?_; refine hK _ ?_; clear hK K; try simp only [Act.put, List.setIfInBounds_toArray, List.set_cons_zero, List.set_cons_succ])
                   | (refine quiet_slice_lo _ _ rfl _ _ _ rfl rfl hrd ?_; refine hK _ ?_; clear hK K; try simp only [Act.put, List.setIfInBounds_toArray, List.set_cons_zero, List.set_cons_succ])
                   | (go_big_quiet_op; refine hK _ ?_; clear hK K)))
            refine' hold_sole ?_ ?_ (fun K hK => ?_)
            rotate_left 1
            · simp only [List.getElem?_toArray, List.getElem?_cons_zero, List.getElem?_cons_succ]; exact rfl
            · exact rfl
            go_simp
            refine (Hsx.out _ HC.out).mono ?_
            rintro e wx ⟨rfl, hb⟩
            refine hK _ _ (Hcw.out _ _ HC.out hb) ?_
            have HC := Lib.hid (Hcw.out _ _ HC.out hb)
            clear hb
            clear hK K
            try simp only [Act.put, List.setIfInBounds_toArray, List.set_cons_zero, List.set_cons_succ]
            repeat (first
                | (refine' hold_skip ?_ ?_ ?_
                   rotate_left 1
                   · simp only [List.getElem?_toArray, List.getElem?_cons_zero, List.getElem?_cons_succ]; exact rfl
                   · exact rfl
                   simp only [Act.put, List.setIfInBounds_toArray, List.set_cons_zero, List.set_cons_succ])
                | (refine' hold_want ?_ ?_ (fun K hK => ?_)
                   rotate_left 1
                   · simp only [List.getElem?_toArray, List.getElem?_cons_zero, List.getElem?_cons_succ]; exact rfl
                   · exact rfl
                   first
                   | (refine quiet_load_core _ rfl w.heap.size 0 _ rfl h7a ?_; refine hK _ ?_; clear hK K; try simp only [Act.put, List.setIfInBounds_toArray, List.set_cons_zero, List.set_cons_succ])
                   | (refine quiet_load_core _ rfl (w.heap.size + 1) 0 _ rfl h7b ?_; refine hK _ ?_; clear hK K; try simp only [Act.put, List.setIfInBounds_toArray, List.set_cons_zero, List.set_cons_succ])
                   | (refine quiet_slice_hi _ _ rfl _ _ _ rfl rfl hrt ?_; refine hK _ ?_; clear hK K; try simp only [Act.put, List.setIfInBounds_toArray, List.set_cons_zero, List.set_cons_succ])
                   | (refine quiet_slice_lo _ _ rfl _ _ _ rfl rfl hrd ?_; refine hK _ ?_; clear hK K; try simp only [Act.put, List.setIfInBounds_toArray, List.set_cons_zero, List.set_cons_succ])
                   | (go_big_quiet_op; refine hK _ ?_; clear hK K)))
            refine' hold_sole_skip ?_ ?_ ?_
            rotate_left 1
            · simp only [List.getElem?_toArray, List.getElem?_cons_zero, List.getElem?_cons_succ]; exact rfl
            · exact rfl
            try simp only [Act.put, List.setIfInBounds_toArray, List.set_cons_zero, List.set_cons_succ]
            refine' hold_sole_skip ?_ ?_ ?_
            rotate_left 1
            · simp only [List.getElem?_toArray, List.getElem?_cons_zero, List.getElem?_cons_succ]; exact rfl
            · exact rfl
            try simp only [Act.put, List.setIfInBounds_toArray, List.set_cons_zero, List.set_cons_succ]
            repeat (first
                | (refine' hold_skip ?_ ?_ ?_
                   rotate_left 1
                   · simp only [List.getElem?_toArray, List.getElem?_cons_zero, List.getElem?_cons_succ]; exact rfl
                   · exact rfl
                   simp only [Act.put, List.setIfInBounds_toArray, List.set_cons_zero, List.set_cons_succ])
                | (refine' hold_want ?_ ?_ (fun K hK => ?_)
                   rotate_left 1
                   · simp only [List.getElem?_toArray, List.getElem?_cons_zero, List.getElem?_cons_succ]; exact rfl
                   · exact rfl
                   first
                   | (refine quiet_load_core _ rfl w.heap.size 0 _ rfl h7a ?_; refine hK _ ?_; clear hK K; try simp only [Act.put, List.setIfInBounds_toArray, List.set_cons_zero, List.set_cons_succ])
                   | (refine quiet_load_core _ rfl (w.heap.size + 1) 0 _ rfl h7b ?_; refine hK _ ?_; clear hK K; try simp only [Act.put, List.setIfInBounds_toArray, List.set_cons_zero, List.set_cons_succ])
                   | (refine quiet_slice_hi _ _ rfl _ _ _ rfl rfl hrt ?_; refine hK _ ?_; clear hK K; try simp only [Act.put, List.setIfInBounds_toArray, List.set_cons_zero, List.set_cons_succ])
                   | (refine quiet_slice_lo _ _ rfl _ _ _ rfl rfl hrd ?_; refine hK _ ?_; clear hK K; try simp only [Act.put, List.setIfInBounds_toArray, List.set_cons_zero, List.set_cons_succ])
                   | (go_big_quiet_op; refine hK _ ?_; clear hK K)))
            refine hold_done ?_
            have HCf := Lib.hid HC.out
            clear hrt hrd h7a h7b
            go_wp2_with fail
            go_roundw
            case rel => exact ⟨J, by go_num, hjn, by rw [Hs.out], HCf.out⟩
            case measure => have := HJ.out; simp [intOf]; omega
          have Hs := Lib.hid (show (z0 || anyUpTo (fun i => catHere x (.mk 5 0 0 [x]) l (i + 1)) J) = q2 by rw [Hstep.out]; simp)
          clear hpj
          go_upto_region 14 with fail
          refine wp_region_hold C (.plain 0 (.plain 1 (.plain 2 (.plain 3 (.plain 4 (.plain 5 (.sole 6 (.plain 7 (.plain 8 (.plain 10 (.plain 11 (.plain 12 (.sole 9 (.sole 13 (.plain 14 (.plain 15 (.plain 16 .done))))))))))))))))) (Hcd.out _ HC.out) (by kernel_rfl) (by kernel_rfl) (fun c a d v w h => by cases d <;> exact h) ?_
          have HC := Lib.hid (Hcd.out _ HC.out)
          obtain ⟨wdr, hwdr⟩ : ∃ x, x = wr.drew := ⟨_, rfl⟩
          rw [← hwdr] at HC ⊢
          clear hwdr
          repeat (first
              | (refine' hold_skip ?_ ?_ ?_
                 rotate_left 1
                 · simp only [List.getElem?_toArray, List.getElem?_cons_zero, List.getElem?_cons_succ]; exact rfl
                 · exact rfl
                 simp only [Act.put, List.setIfInBounds_toArray, List.set_cons_zero, List.set_cons_succ])
              | (refine' hold_want ?_ ?_ (fun K hK => ?_)
                 rotate_left 1
                 · simp only [List.getElem?_toArray, List.getElem?_cons_zero, List.getElem?_cons_succ]; exact rfl
                 · exact rfl
                 first
                 | (refine quiet_load_core _ rfl w.heap.size 0 _ rfl h7a ?_; refine hK _ ?_; clear hK K; try simp only [Act.put, List.setIfInBounds_toArray, List.set_cons_zero, List.set_cons_succ])
                 | (refine quiet_load_core _ rfl (w.heap.size + 1) 0 _ rfl h7b ?_; refine hK _ ?_; clear hK K; try simp only [Act.put, List.setIfInBounds_toArray, List.set_cons_zero, List.set_cons_succ])
                 | (refine quiet_slice_hi _ _ rfl _ _ _ rfl rfl hrt ?_; refine hK _ ?_; clear hK K; try simp only [Act.put, List.setIfInBounds_toArray, List.set_cons_zero, List.set_cons_succ])
                 | (refine quiet_slice_lo _ _ rfl _ _ _ rfl rfl hrd ?_; refine hK _ ?_; clear hK K; try simp only [Act.put, List.setIfInBounds_toArray, List.set_cons_zero, List.set_cons_succ])
                 | (go_big_quiet_op; refine hK _ ?_; clear hK K)))
          refine' hold_sole ?_ ?_ (fun K hK => ?_)
          rotate_left 1
          · simp only [List.getElem?_toArray, List.getElem?_cons_zero, List.getElem?_cons_succ]; exact rfl
          · exact rfl
          go_simp
          refine (Hsx.out _ HC.out).mono ?_
          rintro e wx ⟨rfl, hb⟩
          refine hK _ _ (Hcw.out _ _ HC.out hb) ?_
          have HC := Lib.hid (Hcw.out _ _ HC.out hb)
          clear hb
          clear hK K
          try simp only [Act.put, List.setIfInBounds_toArray, List.set_cons_zero, List.set_cons_succ]
          repeat (first
              | (refine' hold_skip ?_ ?_ ?_
                 rotate_left 1
                 · simp only [List.getElem?_toArray, List.getElem?_cons_zero, List.getElem?_cons_succ]; exact rfl
                 · exact rfl
                 simp only [Act.put, List.setIfInBounds_toArray, List.set_cons_zero, List.set_cons_succ])
              | (refine' hold_want ?_ ?_ (fun K hK => ?_)
                 rotate_left 1
                 · simp only [List.getElem?_toArray, List.getElem?_cons_zero, List.getElem?_cons_succ]; exact rfl
                 · exact rfl
                 first
                 | (refine quiet_load_core _ rfl w.heap.size 0 _ rfl h7a ?_; refine hK _ ?_; clear hK K; try simp only [Act.put, List.setIfInBounds_toArray, List.set_cons_zero, List.set_cons_succ])
                 | (refine quiet_load_core _ rfl (w.heap.size + 1) 0 _ rfl h7b ?_; refine hK _ ?_; clear hK K; try simp only [Act.put, List.setIfInBounds_toArray, List.set_cons_zero, List.set_cons_succ])
                 | (refine quiet_slice_hi _ _ rfl _ _ _ rfl rfl hrt ?_; refine hK _ ?_; clear hK K; try simp only [Act.put, List.setIfInBounds_toArray, List.set_cons_zero, List.set_cons_succ])
                 | (refine quiet_slice_lo _ _ rfl _ _ _ rfl rfl hrd ?_; refine hK _ ?_; clear hK K; try simp only [Act.put, List.setIfInBounds_toArray, List.set_cons_zero, List.set_cons_succ])
                 | (go_big_quiet_op; refine hK _ ?_; clear hK K)))
          refine' hold_sole ?_ ?_ (fun K hK => ?_)
          rotate_left 1
          · simp only [List.getElem?_toArray, List.getElem?_cons_zero, List.getElem?_cons_succ]; exact rfl
          · exact rfl
          go_simp
          refine (star_walk (HA.out _ HC.out)).mono ?_
          rintro e ws ⟨zs, rfl, hat, hb⟩
          refine hK _ _ (Hcw.out _ _ HC.out hb) ?_
          have HC := Lib.hid (Hcw.out _ _ HC.out hb)
          have AZ := Lib.hid hat
          clear hat
          clear hb
          clear hK K
          try simp only [Act.put, List.setIfInBounds_toArray, List.set_cons_zero, List.set_cons_succ]
          refine' hold_sole ?_ ?_ (fun K hK => ?_)
          rotate_left 1
          · simp only [List.getElem?_toArray, List.getElem?_cons_zero, List.getElem?_cons_succ]; exact rfl
          · exact rfl
          go_simp
          refine (Hsy.out _ _ HC.out AZ.out).mono ?_
          rintro e wy ⟨rfl, hb⟩
          refine hK _ _ (Hcw.out _ _ HC.out hb) ?_
          have HC := Lib.hid (Hcw.out _ _ HC.out hb)
          clear hb
          clear hK K
          try simp only [Act.put, List.setIfInBounds_toArray, List.set_cons_zero, List.set_cons_succ]
          repeat (first
              | (refine' hold_skip ?_ ?_ ?_
                 rotate_left 1
                 · simp only [List.getElem?_toArray, List.getElem?_cons_zero, List.getElem?_cons_succ]; exact rfl
                 · exact rfl
                 simp only [Act.put, List.setIfInBounds_toArray, List.set_cons_zero, List.set_cons_succ])
              | (refine' hold_want ?_ ?_ (fun K hK => ?_)
                 rotate_left 1
                 · simp only [List.getElem?_toArray, List.getElem?_cons_zero, List.getElem?_cons_succ]; exact rfl
                 · exact rfl
                 first
                 | (refine quiet_load_core _ rfl w.heap.size 0 _ rfl h7a ?_; refine hK _ ?_; clear hK K; try simp only [Act.put, List.setIfInBounds_toArray, List.set_cons_zero, List.set_cons_succ])
                 | (refine quiet_load_core _ rfl (w.heap.size + 1) 0 _ rfl h7b ?_; refine hK _ ?_; clear hK K; try simp only [Act.put, List.setIfInBounds_toArray, List.set_cons_zero, List.set_cons_succ])
                 | (refine quiet_slice_hi _ _ rfl _ _ _ rfl rfl hrt ?_; refine hK _ ?_; clear hK K; try simp only [Act.put, List.setIfInBounds_toArray, List.set_cons_zero, List.set_cons_succ])
                 | (refine quiet_slice_lo _ _ rfl _ _ _ rfl rfl hrd ?_; refine hK _ ?_; clear hK K; try simp only [Act.put, List.setIfInBounds_toArray, List.set_cons_zero, List.set_cons_succ])
                 | (go_big_quiet_op; refine hK _ ?_; clear hK K)))
          refine hold_done ?_
          have HCf := Lib.hid HC.out
          clear hrt hrd h7a h7b
          go_wp2_with fail
          go_roundw
          case rel => exact ⟨J, by go_num, hjn, by rw [Hs.out], HCf.out⟩
          case measure => have := HJ.out; simp [intOf]; omega
        · obtain rfl : j = n := by omega
          have hd : decide ((j : Int) + 1 ≤ (j : Int)) = false := by simp; omega
          have hd2 : decide (j + 1 ≤ j) = false := by simp
          have hd4 : decide (((j + 1 : Nat) : Int) ≤ (j : Int)) = false := by simp; omega
          obtain ⟨⟨g1, g2, g3, g4⟩, g5⟩ := HF.out
          have hl256 : l.length ≤ 256 := by have := Hn.out; omega
          have E2 := alt_says g1 g2 g3 hl256 Hlt.out
          have E3 : saysC (.mk 5 0 0 [x]) l = (z0 || anyUpTo (fun i => catHere x (.mk 5 0 0 [x]) l (i + 1)) j) := by
            rw [star_says g1 g4 hl256 Hlt.out, Hz0.out, Hn.out]
          have E4 := null_cat g1 g2 g5
          have E5 := null_says g1
          generalize (z0 || anyUpTo (fun i => catHere x (.mk 5 0 0 [x]) l (i + 1)) j) = p3 at *
          clear hCr hpj
          have Hsx := Lib.hid (fun w' (h : C w') => lang_says (HA.out w' h) (HL.out w' h))
          have Hsy := Lib.hid (fun w' (h : C w') => lang_says (HB.out w' h) (HL.out w' h))
          have Hnx := Lib.hid (fun w' (h : C w') => lang_null (HA.out w' h))
          have Hny := Lib.hid (fun w' (h : C w') => lang_null (HB.out w' h))
          have Hse := Lib.hid (fun w' (h : C w') => lang_says (HA.out w' h) (bytes_nil w' 0 none))
          rw [← E5] at Hse
          generalize saysC x l = qa at *
          generalize saysC y l = qb at *
          generalize nullC x = ma at *
          generalize nullC y = mb at *
          have E2 := Lib.hid E2
          have E3 := Lib.hid E3
          have E4 := Lib.hid E4
          clear E5 g1 g2 g3 g4 g5
          go_upto_region 15 with fail
          cases qa <;> cases ma
          · refine wp_region_hold C (.plain 0 (.plain 1 (.plain 3 (.plain 5 (.sole 2 (.sole 4 (.plain 6 (.plain 7 (.plain 8 (.plain 9 (.plain 11 (.plain 13 (.plain 14 (.sole 10 (.sole 12 (.sole 15 (.plain 16 (.plain 17 (.plain 18 (.sole 19 (.plain 20 (.plain 21 (.plain 22 (.plain 23 (.plain 24 (.plain 26 (.plain 28 (.sole 25 (.sole 27 (.plain 29 (.plain 30 (.plain 31 (.plain 32 (.plain 33 (.plain 36 (.sole 34 (.sole 35 (.sole 37 (.plain 38 (.plain 39 (.sole 40 (.plain 41 (.plain 42 (.plain 43 (.plain 44 (.plain 45 (.plain 47 (.sole 46 (.sole 48 (.plain 49 (.plain 50 (.plain 51 .done)))))))))))))))))))))))))))))))))))))))))))))))))))) (Hcd.out _ HC.out) (by kernel_rfl) (by kernel_rfl) (fun c a d v w h => by cases d <;> exact h) ?_
            have HC := Lib.hid (Hcd.out _ HC.out)
            obtain ⟨wdr, hwdr⟩ : ∃ x, x = wr.drew := ⟨_, rfl⟩
            rw [← hwdr] at HC ⊢
            clear hwdr
            repeat (first
                | (refine' hold_skip ?_ ?_ ?_
                   rotate_left 1
                   · simp only [List.getElem?_toArray, List.getElem?_cons_zero, List.getElem?_cons_succ]; exact rfl
                   · exact rfl
                   simp only [Act.put, List.setIfInBounds_toArray, List.set_cons_zero, List.set_cons_succ])
                | (refine' hold_want ?_ ?_ (fun K hK => ?_)
                   rotate_left 1
                   · simp only [List.getElem?_toArray, List.getElem?_cons_zero, List.getElem?_cons_succ]; exact rfl
                   · exact rfl
                   first
                   | (refine quiet_load_core _ rfl w.heap.size 0 _ rfl h7a ?_; refine hK _ ?_; clear hK K; try simp only [Act.put, List.setIfInBounds_toArray, List.set_cons_zero, List.set_cons_succ])
                   | (refine quiet_load_core _ rfl (w.heap.size + 1) 0 _ rfl h7b ?_; refine hK _ ?_; clear hK K; try simp only [Act.put, List.setIfInBounds_toArray, List.set_cons_zero, List.set_cons_succ])
                   | (go_big_quiet_op; refine hK _ ?_; clear hK K)))
            refine' hold_sole ?_ ?_ (fun K hK => ?_)
            rotate_left 1
            · simp only [List.getElem?_toArray, List.getElem?_cons_zero, List.getElem?_cons_succ]; exact rfl
            · exact rfl
            go_simp
            refine (seq_walk (HA.out _ HC.out) (HB.out _ HC.out)).mono ?_
            rintro e wc ⟨zs, rfl, hat, hb⟩
            refine hK _ _ (Hcw.out _ _ HC.out hb) ?_
            have HC := Lib.hid (Hcw.out _ _ HC.out hb)
            have AZ := Lib.hid hat
            clear hat
            clear hb
            clear hK K
            try simp only [Act.put, List.setIfInBounds_toArray, List.set_cons_zero, List.set_cons_succ]
            refine' hold_sole ?_ ?_ (fun K hK => ?_)
            rotate_left 1
            · simp only [List.getElem?_toArray, List.getElem?_cons_zero, List.getElem?_cons_succ]; exact rfl
            · exact rfl
            go_simp
            refine (says_eq AZ.out (HL.out _ HC.out) E1.out).mono ?_
            rintro e wu ⟨rfl, hb⟩
            refine hK _ _ (Hcw.out _ _ HC.out hb) ?_
            have HC := Lib.hid (Hcw.out _ _ HC.out hb)
            clear hb
            clear hK K
            try simp only [Act.put, List.setIfInBounds_toArray, List.set_cons_zero, List.set_cons_succ]
            repeat (first
                | (refine' hold_skip ?_ ?_ ?_
                   rotate_left 1
                   · simp only [List.getElem?_toArray, List.getElem?_cons_zero, List.getElem?_cons_succ]; exact rfl
                   · exact rfl
                   simp only [Act.put, List.setIfInBounds_toArray, List.set_cons_zero, List.set_cons_succ])
                | (refine' hold_want ?_ ?_ (fun K hK => ?_)
                   rotate_left 1
                   · simp only [List.getElem?_toArray, List.getElem?_cons_zero, List.getElem?_cons_succ]; exact rfl
                   · exact rfl
                   first
                   | (refine quiet_load_core _ rfl w.heap.size 0 _ rfl h7a ?_; refine hK _ ?_; clear hK K; try simp only [Act.put, List.setIfInBounds_toArray, List.set_cons_zero, List.set_cons_succ])
                   | (refine quiet_load_core _ rfl (w.heap.size + 1) 0 _ rfl h7b ?_; refine hK _ ?_; clear hK K; try simp only [Act.put, List.setIfInBounds_toArray, List.set_cons_zero, List.set_cons_succ])
                   | (go_big_quiet_op; refine hK _ ?_; clear hK K)))
            refine' hold_sole ?_ ?_ (fun K hK => ?_)
            rotate_left 1
            · simp only [List.getElem?_toArray, List.getElem?_cons_zero, List.getElem?_cons_succ]; exact rfl
            · exact rfl
            go_simp
            refine (alt_walk (HA.out _ HC.out) (HB.out _ HC.out)).mono ?_
            rintro e wt ⟨zs, rfl, hat, hb⟩
            refine hK _ _ (Hcw.out _ _ HC.out hb) ?_
            have HC := Lib.hid (Hcw.out _ _ HC.out hb)
            have AZ := Lib.hid hat
            clear hat
            clear hb
            clear hK K
            try simp only [Act.put, List.setIfInBounds_toArray, List.set_cons_zero, List.set_cons_succ]
            refine' hold_sole ?_ ?_ (fun K hK => ?_)
            rotate_left 1
            · simp only [List.getElem?_toArray, List.getElem?_cons_zero, List.getElem?_cons_succ]; exact rfl
            · exact rfl
            go_simp
            refine (says_eq AZ.out (HL.out _ HC.out) (E2.out.trans (Bool.false_or _))).mono ?_
            rintro e wu ⟨rfl, hb⟩
            refine hK _ _ (Hcw.out _ _ HC.out hb) ?_
            have HC := Lib.hid (Hcw.out _ _ HC.out hb)
            clear hb
            clear hK K
            try simp only [Act.put, List.setIfInBounds_toArray, List.set_cons_zero, List.set_cons_succ]
            refine' hold_sole ?_ ?_ (fun K hK => ?_)
            rotate_left 1
            · simp only [List.getElem?_toArray, List.getElem?_cons_zero, List.getElem?_cons_succ]; exact rfl
            · exact rfl
            go_simp
            refine (Hsx.out _ HC.out).mono ?_
            rintro e wx ⟨rfl, hb⟩
            refine hK _ _ (Hcw.out _ _ HC.out hb) ?_
            have HC := Lib.hid (Hcw.out _ _ HC.out hb)
            clear hb
            clear hK K
            try simp only [Act.put, List.setIfInBounds_toArray, List.set_cons_zero, List.set_cons_succ]
            repeat (first
                | (refine' hold_skip ?_ ?_ ?_
                   rotate_left 1
                   · simp only [List.getElem?_toArray, List.getElem?_cons_zero, List.getElem?_cons_succ]; exact rfl
                   · exact rfl
                   simp only [Act.put, List.setIfInBounds_toArray, List.set_cons_zero, List.set_cons_succ])
                | (refine' hold_want ?_ ?_ (fun K hK => ?_)
                   rotate_left 1
                   · simp only [List.getElem?_toArray, List.getElem?_cons_zero, List.getElem?_cons_succ]; exact rfl
                   · exact rfl
                   first
                   | (refine quiet_load_core _ rfl w.heap.size 0 _ rfl h7a ?_; refine hK _ ?_; clear hK K; try simp only [Act.put, List.setIfInBounds_toArray, List.set_cons_zero, List.set_cons_succ])
                   | (refine quiet_load_core _ rfl (w.heap.size + 1) 0 _ rfl h7b ?_; refine hK _ ?_; clear hK K; try simp only [Act.put, List.setIfInBounds_toArray, List.set_cons_zero, List.set_cons_succ])
                   | (go_big_quiet_op; refine hK _ ?_; clear hK K)))
            refine' hold_sole ?_ ?_ (fun K hK => ?_)
            rotate_left 1
            · simp only [List.getElem?_toArray, List.getElem?_cons_zero, List.getElem?_cons_succ]; exact rfl
            · exact rfl
            go_simp
            refine (Hsy.out _ HC.out).mono ?_
            rintro e wy ⟨rfl, hb⟩
            refine hK _ _ (Hcw.out _ _ HC.out hb) ?_
            have HC := Lib.hid (Hcw.out _ _ HC.out hb)
            clear hb
            clear hK K
            try simp only [Act.put, List.setIfInBounds_toArray, List.set_cons_zero, List.set_cons_succ]
            repeat (first
                | (refine' hold_skip ?_ ?_ ?_
                   rotate_left 1
                   · simp only [List.getElem?_toArray, List.getElem?_cons_zero, List.getElem?_cons_succ]; exact rfl
                   · exact rfl
                   simp only [Act.put, List.setIfInBounds_toArray, List.set_cons_zero, List.set_cons_succ])
                | (refine' hold_want ?_ ?_ (fun K hK => ?_)
                   rotate_left 1
                   · simp only [List.getElem?_toArray, List.getElem?_cons_zero, List.getElem?_cons_succ]; exact rfl
                   · exact rfl
                   first
                   | (refine quiet_load_core _ rfl w.heap.size 0 _ rfl h7a ?_; refine hK _ ?_; clear hK K; try simp only [Act.put, List.setIfInBounds_toArray, List.set_cons_zero, List.set_cons_succ])
                   | (refine quiet_load_core _ rfl (w.heap.size + 1) 0 _ rfl h7b ?_; refine hK _ ?_; clear hK K; try simp only [Act.put, List.setIfInBounds_toArray, List.set_cons_zero, List.set_cons_succ])
                   | (go_big_quiet_op; refine hK _ ?_; clear hK K)))
            refine' hold_sole ?_ ?_ (fun K hK => ?_)
            rotate_left 1
            · simp only [List.getElem?_toArray, List.getElem?_cons_zero, List.getElem?_cons_succ]; exact rfl
            · exact rfl
            go_simp
            refine (star_walk (HA.out _ HC.out)).mono ?_
            rintro e ws ⟨zs, rfl, hat, hb⟩
            refine hK _ _ (Hcw.out _ _ HC.out hb) ?_
            have HC := Lib.hid (Hcw.out _ _ HC.out hb)
            have AZ := Lib.hid hat
            clear hat
            clear hb
            clear hK K
            try simp only [Act.put, List.setIfInBounds_toArray, List.set_cons_zero, List.set_cons_succ]
            refine' hold_sole ?_ ?_ (fun K hK => ?_)
            rotate_left 1
            · simp only [List.getElem?_toArray, List.getElem?_cons_zero, List.getElem?_cons_succ]; exact rfl
            · exact rfl
            go_simp
            refine (says_eq AZ.out (HL.out _ HC.out) E3.out).mono ?_
            rintro e wu ⟨rfl, hb⟩
            refine hK _ _ (Hcw.out _ _ HC.out hb) ?_
            have HC := Lib.hid (Hcw.out _ _ HC.out hb)
            clear hb
            clear hK K
            try simp only [Act.put, List.setIfInBounds_toArray, List.set_cons_zero, List.set_cons_succ]
            repeat (first
                | (refine' hold_skip ?_ ?_ ?_
                   rotate_left 1
                   · simp only [List.getElem?_toArray, List.getElem?_cons_zero, List.getElem?_cons_succ]; exact rfl
                   · exact rfl
                   simp only [Act.put, List.setIfInBounds_toArray, List.set_cons_zero, List.set_cons_succ])
                | (refine' hold_want ?_ ?_ (fun K hK => ?_)
                   rotate_left 1
                   · simp only [List.getElem?_toArray, List.getElem?_cons_zero, List.getElem?_cons_succ]; exact rfl
                   · exact rfl
                   first
                   | (refine quiet_load_core _ rfl w.heap.size 0 _ rfl h7a ?_; refine hK _ ?_; clear hK K; try simp only [Act.put, List.setIfInBounds_toArray, List.set_cons_zero, List.set_cons_succ])
                   | (refine quiet_load_core _ rfl (w.heap.size + 1) 0 _ rfl h7b ?_; refine hK _ ?_; clear hK K; try simp only [Act.put, List.setIfInBounds_toArray, List.set_cons_zero, List.set_cons_succ])
                   | (go_big_quiet_op; refine hK _ ?_; clear hK K)))
            refine' hold_sole ?_ ?_ (fun K hK => ?_)
            rotate_left 1
            · simp only [List.getElem?_toArray, List.getElem?_cons_zero, List.getElem?_cons_succ]; exact rfl
            · exact rfl
            go_simp
            refine (seq_walk (HA.out _ HC.out) (HB.out _ HC.out)).mono ?_
            rintro e wc ⟨zs, rfl, hat, hb⟩
            refine hK _ _ (Hcw.out _ _ HC.out hb) ?_
            have HC := Lib.hid (Hcw.out _ _ HC.out hb)
            have AZ := Lib.hid hat
            clear hat
            clear hb
            clear hK K
            try simp only [Act.put, List.setIfInBounds_toArray, List.set_cons_zero, List.set_cons_succ]
            refine' hold_sole ?_ ?_ (fun K hK => ?_)
            rotate_left 1
            · simp only [List.getElem?_toArray, List.getElem?_cons_zero, List.getElem?_cons_succ]; exact rfl
            · exact rfl
            go_simp
            refine (null_eq AZ.out (E4.out.trans (Bool.false_and _))).mono ?_
            rintro e wv ⟨rfl, hb⟩
            refine hK _ _ (Hcw.out _ _ HC.out hb) ?_
            have HC := Lib.hid (Hcw.out _ _ HC.out hb)
            clear hb
            clear hK K
            try simp only [Act.put, List.setIfInBounds_toArray, List.set_cons_zero, List.set_cons_succ]
            refine' hold_sole ?_ ?_ (fun K hK => ?_)
            rotate_left 1
            · simp only [List.getElem?_toArray, List.getElem?_cons_zero, List.getElem?_cons_succ]; exact rfl
            · exact rfl
            go_simp
            refine (Hnx.out _ HC.out).mono ?_
            rintro e wn1 ⟨rfl, hb⟩
            refine hK _ _ (Hcw.out _ _ HC.out hb) ?_
            have HC := Lib.hid (Hcw.out _ _ HC.out hb)
            clear hb
            clear hK K
            try simp only [Act.put, List.setIfInBounds_toArray, List.set_cons_zero, List.set_cons_succ]
            repeat (first
                | (refine' hold_skip ?_ ?_ ?_
                   rotate_left 1
                   · simp only [List.getElem?_toArray, List.getElem?_cons_zero, List.getElem?_cons_succ]; exact rfl
                   · exact rfl
                   simp only [Act.put, List.setIfInBounds_toArray, List.set_cons_zero, List.set_cons_succ])
                | (refine' hold_want ?_ ?_ (fun K hK => ?_)
                   rotate_left 1
                   · simp only [List.getElem?_toArray, List.getElem?_cons_zero, List.getElem?_cons_succ]; exact rfl
                   · exact rfl
                   first
                   | (refine quiet_load_core _ rfl w.heap.size 0 _ rfl h7a ?_; refine hK _ ?_; clear hK K; try simp only [Act.put, List.setIfInBounds_toArray, List.set_cons_zero, List.set_cons_succ])
                   | (refine quiet_load_core _ rfl (w.heap.size + 1) 0 _ rfl h7b ?_; refine hK _ ?_; clear hK K; try simp only [Act.put, List.setIfInBounds_toArray, List.set_cons_zero, List.set_cons_succ])
                   | (go_big_quiet_op; refine hK _ ?_; clear hK K)))
            refine' hold_sole_skip ?_ ?_ ?_
            rotate_left 1
            · simp only [List.getElem?_toArray, List.getElem?_cons_zero, List.getElem?_cons_succ]; exact rfl
            · exact rfl
            try simp only [Act.put, List.setIfInBounds_toArray, List.set_cons_zero, List.set_cons_succ]
            repeat (first
                | (refine' hold_skip ?_ ?_ ?_
                   rotate_left 1
                   · simp only [List.getElem?_toArray, List.getElem?_cons_zero, List.getElem?_cons_succ]; exact rfl
                   · exact rfl
                   simp only [Act.put, List.setIfInBounds_toArray, List.set_cons_zero, List.set_cons_succ])
                | (refine' hold_want ?_ ?_ (fun K hK => ?_)
                   rotate_left 1
                   · simp only [List.getElem?_toArray, List.getElem?_cons_zero, List.getElem?_cons_succ]; exact rfl
                   · exact rfl
                   first
                   | (refine quiet_load_core _ rfl w.heap.size 0 _ rfl h7a ?_; refine hK _ ?_; clear hK K; try simp only [Act.put, List.setIfInBounds_toArray, List.set_cons_zero, List.set_cons_succ])
                   | (refine quiet_load_core _ rfl (w.heap.size + 1) 0 _ rfl h7b ?_; refine hK _ ?_; clear hK K; try simp only [Act.put, List.setIfInBounds_toArray, List.set_cons_zero, List.set_cons_succ])
                   | (go_big_quiet_op; refine hK _ ?_; clear hK K)))
            refine' hold_sole ?_ ?_ (fun K hK => ?_)
            rotate_left 1
            · simp only [List.getElem?_toArray, List.getElem?_cons_zero, List.getElem?_cons_succ]; exact rfl
            · exact rfl
            go_simp
            refine (Hnx.out _ HC.out).mono ?_
            rintro e wn3 ⟨rfl, hb⟩
            refine hK _ _ (Hcw.out _ _ HC.out hb) ?_
            have HC := Lib.hid (Hcw.out _ _ HC.out hb)
            clear hb
            clear hK K
            try simp only [Act.put, List.setIfInBounds_toArray, List.set_cons_zero, List.set_cons_succ]
            refine' hold_sole ?_ ?_ (fun K hK => ?_)
            rotate_left 1
            · simp only [List.getElem?_toArray, List.getElem?_cons_zero, List.getElem?_cons_succ]; exact rfl
            · exact rfl
            go_simp
            refine (Hse.out _ HC.out).mono ?_
            rintro e wn4 ⟨rfl, hb⟩
            refine hK _ _ (Hcw.out _ _ HC.out hb) ?_
            have HC := Lib.hid (Hcw.out _ _ HC.out hb)
            clear hb
            clear hK K
            try simp only [Act.put, List.setIfInBounds_toArray, List.set_cons_zero, List.set_cons_succ]
            repeat (first
                | (refine' hold_skip ?_ ?_ ?_
                   rotate_left 1
                   · simp only [List.getElem?_toArray, List.getElem?_cons_zero, List.getElem?_cons_succ]; exact rfl
                   · exact rfl
                   simp only [Act.put, List.setIfInBounds_toArray, List.set_cons_zero, List.set_cons_succ])
                | (refine' hold_want ?_ ?_ (fun K hK => ?_)
                   rotate_left 1
                   · simp only [List.getElem?_toArray, List.getElem?_cons_zero, List.getElem?_cons_succ]; exact rfl
                   · exact rfl
                   first
                   | (refine quiet_load_core _ rfl w.heap.size 0 _ rfl h7a ?_; refine hK _ ?_; clear hK K; try simp only [Act.put, List.setIfInBounds_toArray, List.set_cons_zero, List.set_cons_succ])
                   | (refine quiet_load_core _ rfl (w.heap.size + 1) 0 _ rfl h7b ?_; refine hK _ ?_; clear hK K; try simp only [Act.put, List.setIfInBounds_toArray, List.set_cons_zero, List.set_cons_succ])
                   | (go_big_quiet_op; refine hK _ ?_; clear hK K)))
            refine hold_done ?_
            have Hfin := Lib.hid (Hup.out _ HC.out)
            clear h7a h7b
            go_wp2_with fail
            go_ret
            exact ⟨rfl, Hfin.out⟩
          · refine wp_region_hold C (.plain 0 (.plain 1 (.plain 3 (.plain 5 (.sole 2 (.sole 4 (.plain 6 (.plain 7 (.plain 8 (.plain 9 (.plain 11 (.plain 13 (.plain 14 (.sole 10 (.sole 12 (.sole 15 (.plain 16 (.plain 17 (.plain 18 (.sole 19 (.plain 20 (.plain 21 (.plain 22 (.plain 23 (.plain 24 (.plain 26 (.plain 28 (.sole 25 (.sole 27 (.plain 29 (.plain 30 (.plain 31 (.plain 32 (.plain 33 (.plain 36 (.sole 34 (.sole 35 (.sole 37 (.plain 38 (.plain 39 (.sole 40 (.plain 41 (.plain 42 (.plain 43 (.plain 44 (.plain 45 (.plain 47 (.sole 46 (.sole 48 (.plain 49 (.plain 50 (.plain 51 .done)))))))))))))))))))))))))))))))))))))))))))))))))))) (Hcd.out _ HC.out) (by kernel_rfl) (by kernel_rfl) (fun c a d v w h => by cases d <;> exact h) ?_
            have HC := Lib.hid (Hcd.out _ HC.out)
            obtain ⟨wdr, hwdr⟩ : ∃ x, x = wr.drew := ⟨_, rfl⟩
            rw [← hwdr] at HC ⊢
            clear hwdr
            repeat (first
                | (refine' hold_skip ?_ ?_ ?_
                   rotate_left 1
                   · simp only [List.getElem?_toArray, List.getElem?_cons_zero, List.getElem?_cons_succ]; exact rfl
                   · exact rfl
                   simp only [Act.put, List.setIfInBounds_toArray, List.set_cons_zero, List.set_cons_succ])
                | (refine' hold_want ?_ ?_ (fun K hK => ?_)
                   rotate_left 1
                   · simp only [List.getElem?_toArray, List.getElem?_cons_zero, List.getElem?_cons_succ]; exact rfl
                   · exact rfl
                   first
                   | (refine quiet_load_core _ rfl w.heap.size 0 _ rfl h7a ?_; refine hK _ ?_; clear hK K; try simp only [Act.put, List.setIfInBounds_toArray, List.set_cons_zero, List.set_cons_succ])
                   | (refine quiet_load_core _ rfl (w.heap.size + 1) 0 _ rfl h7b ?_; refine hK _ ?_; clear hK K; try simp only [Act.put, List.setIfInBounds_toArray, List.set_cons_zero, List.set_cons_succ])
                   | (go_big_quiet_op; refine hK _ ?_; clear hK K)))
            refine' hold_sole ?_ ?_ (fun K hK => ?_)
            rotate_left 1
            · simp only [List.getElem?_toArray, List.getElem?_cons_zero, List.getElem?_cons_succ]; exact rfl
            · exact rfl
            go_simp
            refine (seq_walk (HA.out _ HC.out) (HB.out _ HC.out)).mono ?_
            rintro e wc ⟨zs, rfl, hat, hb⟩
            refine hK _ _ (Hcw.out _ _ HC.out hb) ?_
            have HC := Lib.hid (Hcw.out _ _ HC.out hb)
            have AZ := Lib.hid hat
            clear hat
            clear hb
            clear hK K
            try simp only [Act.put, List.setIfInBounds_toArray, List.set_cons_zero, List.set_cons_succ]
            refine' hold_sole ?_ ?_ (fun K hK => ?_)
            rotate_left 1
            · simp only [List.getElem?_toArray, List.getElem?_cons_zero, List.getElem?_cons_succ]; exact rfl
            · exact rfl
            go_simp
            refine (says_eq AZ.out (HL.out _ HC.out) E1.out).mono ?_
            rintro e wu ⟨rfl, hb⟩
            refine hK _ _ (Hcw.out _ _ HC.out hb) ?_
            have HC := Lib.hid (Hcw.out _ _ HC.out hb)
            clear hb
            clear hK K
            try simp only [Act.put, List.setIfInBounds_toArray, List.set_cons_zero, List.set_cons_succ]
            repeat (first
                | (refine' hold_skip ?_ ?_ ?_
                   rotate_left 1
                   · simp only [List.getElem?_toArray, List.getElem?_cons_zero, List.getElem?_cons_succ]; exact rfl
                   · exact rfl
                   simp only [Act.put, List.setIfInBounds_toArray, List.set_cons_zero, List.set_cons_succ])
                | (refine' hold_want ?_ ?_ (fun K hK => ?_)
                   rotate_left 1
                   · simp only [List.getElem?_toArray, List.getElem?_cons_zero, List.getElem?_cons_succ]; exact rfl
                   · exact rfl
                   first
                   | (refine quiet_load_core _ rfl w.heap.size 0 _ rfl h7a ?_; refine hK _ ?_; clear hK K; try simp only [Act.put, List.setIfInBounds_toArray, List.set_cons_zero, List.set_cons_succ])
                   | (refine quiet_load_core _ rfl (w.heap.size + 1) 0 _ rfl h7b ?_; refine hK _ ?_; clear hK K; try simp only [Act.put, List.setIfInBounds_toArray, List.set_cons_zero, List.set_cons_succ])
                   | (go_big_quiet_op; refine hK _ ?_; clear hK K)))
            refine' hold_sole ?_ ?_ (fun K hK => ?_)
            rotate_left 1
            · simp only [List.getElem?_toArray, List.getElem?_cons_zero, List.getElem?_cons_succ]; exact rfl
            · exact rfl
            go_simp
            refine (alt_walk (HA.out _ HC.out) (HB.out _ HC.out)).mono ?_
            rintro e wt ⟨zs, rfl, hat, hb⟩
            refine hK _ _ (Hcw.out _ _ HC.out hb) ?_
            have HC := Lib.hid (Hcw.out _ _ HC.out hb)
            have AZ := Lib.hid hat
            clear hat
            clear hb
            clear hK K
            try simp only [Act.put, List.setIfInBounds_toArray, List.set_cons_zero, List.set_cons_succ]
            refine' hold_sole ?_ ?_ (fun K hK => ?_)
            rotate_left 1
            · simp only [List.getElem?_toArray, List.getElem?_cons_zero, List.getElem?_cons_succ]; exact rfl
            · exact rfl
            go_simp
            refine (says_eq AZ.out (HL.out _ HC.out) (E2.out.trans (Bool.false_or _))).mono ?_
            rintro e wu ⟨rfl, hb⟩
            refine hK _ _ (Hcw.out _ _ HC.out hb) ?_
            have HC := Lib.hid (Hcw.out _ _ HC.out hb)
            clear hb
            clear hK K
            try simp only [Act.put, List.setIfInBounds_toArray, List.set_cons_zero, List.set_cons_succ]
            refine' hold_sole ?_ ?_ (fun K hK => ?_)
            rotate_left 1
            · simp only [List.getElem?_toArray, List.getElem?_cons_zero, List.getElem?_cons_succ]; exact rfl
            · exact rfl
            go_simp
            refine (Hsx.out _ HC.out).mono ?_
            rintro e wx ⟨rfl, hb⟩
            refine hK _ _ (Hcw.out _ _ HC.out hb) ?_
            have HC := Lib.hid (Hcw.out _ _ HC.out hb)
            clear hb
            clear hK K
            try simp only [Act.put, List.setIfInBounds_toArray, List.set_cons_zero, List.set_cons_succ]
            repeat (first
                | (refine' hold_skip ?_ ?_ ?_
                   rotate_left 1
                   · simp only [List.getElem?_toArray, List.getElem?_cons_zero, List.getElem?_cons_succ]; exact rfl
                   · exact rfl
                   simp only [Act.put, List.setIfInBounds_toArray, List.set_cons_zero, List.set_cons_succ])
                | (refine' hold_want ?_ ?_ (fun K hK => ?_)
                   rotate_left 1
                   · simp only [List.getElem?_toArray, List.getElem?_cons_zero, List.getElem?_cons_succ]; exact rfl
                   · exact rfl
                   first
                   | (refine quiet_load_core _ rfl w.heap.size 0 _ rfl h7a ?_; refine hK _ ?_; clear hK K; try simp only [Act.put, List.setIfInBounds_toArray, List.set_cons_zero, List.set_cons_succ])
                   | (refine quiet_load_core _ rfl (w.heap.size + 1) 0 _ rfl h7b ?_; refine hK _ ?_; clear hK K; try simp only [Act.put, List.setIfInBounds_toArray, List.set_cons_zero, List.set_cons_succ])
                   | (go_big_quiet_op; refine hK _ ?_; clear hK K)))
            refine' hold_sole ?_ ?_ (fun K hK => ?_)
            rotate_left 1
            · simp only [List.getElem?_toArray, List.getElem?_cons_zero, List.getElem?_cons_succ]; exact rfl
            · exact rfl
            go_simp
            refine (Hsy.out _ HC.out).mono ?_
            rintro e wy ⟨rfl, hb⟩
            refine hK _ _ (Hcw.out _ _ HC.out hb) ?_
            have HC := Lib.hid (Hcw.out _ _ HC.out hb)
            clear hb
            clear hK K
            try simp only [Act.put, List.setIfInBounds_toArray, List.set_cons_zero, List.set_cons_succ]
            repeat (first
                | (refine' hold_skip ?_ ?_ ?_
                   rotate_left 1
                   · simp only [List.getElem?_toArray, List.getElem?_cons_zero, List.getElem?_cons_succ]; exact rfl
                   · exact rfl
                   simp only [Act.put, List.setIfInBounds_toArray, List.set_cons_zero, List.set_cons_succ])
                | (refine' hold_want ?_ ?_ (fun K hK => ?_)
                   rotate_left 1
                   · simp only [List.getElem?_toArray, List.getElem?_cons_zero, List.getElem?_cons_succ]; exact rfl
                   · exact rfl
                   first
                   | (refine quiet_load_core _ rfl w.heap.size 0 _ rfl h7a ?_; refine hK _ ?_; clear hK K; try simp only [Act.put, List.setIfInBounds_toArray, List.set_cons_zero, List.set_cons_succ])
                   | (refine quiet_load_core _ rfl (w.heap.size + 1) 0 _ rfl h7b ?_; refine hK _ ?_; clear hK K; try simp only [Act.put, List.setIfInBounds_toArray, List.set_cons_zero, List.set_cons_succ])
                   | (go_big_quiet_op; refine hK _ ?_; clear hK K)))
            refine' hold_sole ?_ ?_ (fun K hK => ?_)
            rotate_left 1
            · simp only [List.getElem?_toArray, List.getElem?_cons_zero, List.getElem?_cons_succ]; exact rfl
            · exact rfl
            go_simp
            refine (star_walk (HA.out _ HC.out)).mono ?_
            rintro e ws ⟨zs, rfl, hat, hb⟩
            refine hK _ _ (Hcw.out _ _ HC.out hb) ?_
            have HC := Lib.hid (Hcw.out _ _ HC.out hb)
            have AZ := Lib.hid hat
            clear hat
            clear hb
            clear hK K
            try simp only [Act.put, List.setIfInBounds_toArray, List.set_cons_zero, List.set_cons_succ]
            refine' hold_sole ?_ ?_ (fun K hK => ?_)
            rotate_left 1
            · simp only [List.getElem?_toArray, List.getElem?_cons_zero, List.getElem?_cons_succ]; exact rfl
            · exact rfl
            go_simp
            refine (says_eq AZ.out (HL.out _ HC.out) E3.out).mono ?_
            rintro e wu ⟨rfl, hb⟩
            refine hK _ _ (Hcw.out _ _ HC.out hb) ?_
            have HC := Lib.hid (Hcw.out _ _ HC.out hb)
            clear hb
            clear hK K
            try simp only [Act.put, List.setIfInBounds_toArray, List.set_cons_zero, List.set_cons_succ]
            repeat (first
                | (refine' hold_skip ?_ ?_ ?_
                   rotate_left 1
                   · simp only [List.getElem?_toArray, List.getElem?_cons_zero, List.getElem?_cons_succ]; exact rfl
                   · exact rfl
                   simp only [Act.put, List.setIfInBounds_toArray, List.set_cons_zero, List.set_cons_succ])
                | (refine' hold_want ?_ ?_ (fun K hK => ?_)
                   rotate_left 1
                   · simp only [List.getElem?_toArray, List.getElem?_cons_zero, List.getElem?_cons_succ]; exact rfl
                   · exact rfl
                   first
                   | (refine quiet_load_core _ rfl w.heap.size 0 _ rfl h7a ?_; refine hK _ ?_; clear hK K; try simp only [Act.put, List.setIfInBounds_toArray, List.set_cons_zero, List.set_cons_succ])
                   | (refine quiet_load_core _ rfl (w.heap.size + 1) 0 _ rfl h7b ?_; refine hK _ ?_; clear hK K; try simp only [Act.put, List.setIfInBounds_toArray, List.set_cons_zero, List.set_cons_succ])
                   | (go_big_quiet_op; refine hK _ ?_; clear hK K)))
            refine' hold_sole ?_ ?_ (fun K hK => ?_)
            rotate_left 1
            · simp only [List.getElem?_toArray, List.getElem?_cons_zero, List.getElem?_cons_succ]; exact rfl
            · exact rfl
            go_simp
            refine (seq_walk (HA.out _ HC.out) (HB.out _ HC.out)).mono ?_
            rintro e wc ⟨zs, rfl, hat, hb⟩
            refine hK _ _ (Hcw.out _ _ HC.out hb) ?_
            have HC := Lib.hid (Hcw.out _ _ HC.out hb)
            have AZ := Lib.hid hat
            clear hat
            clear hb
            clear hK K
            try simp only [Act.put, List.setIfInBounds_toArray, List.set_cons_zero, List.set_cons_succ]
            refine' hold_sole ?_ ?_ (fun K hK => ?_)
            rotate_left 1
            · simp only [List.getElem?_toArray, List.getElem?_cons_zero, List.getElem?_cons_succ]; exact rfl
            · exact rfl
            go_simp
            refine (null_eq AZ.out (E4.out.trans (Bool.true_and _))).mono ?_
            rintro e wv ⟨rfl, hb⟩
            refine hK _ _ (Hcw.out _ _ HC.out hb) ?_
            have HC := Lib.hid (Hcw.out _ _ HC.out hb)
            clear hb
            clear hK K
            try simp only [Act.put, List.setIfInBounds_toArray, List.set_cons_zero, List.set_cons_succ]
            refine' hold_sole ?_ ?_ (fun K hK => ?_)
            rotate_left 1
            · simp only [List.getElem?_toArray, List.getElem?_cons_zero, List.getElem?_cons_succ]; exact rfl
            · exact rfl
            go_simp
            refine (Hnx.out _ HC.out).mono ?_
            rintro e wn1 ⟨rfl, hb⟩
            refine hK _ _ (Hcw.out _ _ HC.out hb) ?_
            have HC := Lib.hid (Hcw.out _ _ HC.out hb)
            clear hb
            clear hK K
            try simp only [Act.put, List.setIfInBounds_toArray, List.set_cons_zero, List.set_cons_succ]
            repeat (first
                | (refine' hold_skip ?_ ?_ ?_
                   rotate_left 1
                   · simp only [List.getElem?_toArray, List.getElem?_cons_zero, List.getElem?_cons_succ]; exact rfl
                   · exact rfl
                   simp only [Act.put, List.setIfInBounds_toArray, List.set_cons_zero, List.set_cons_succ])
                | (refine' hold_want ?_ ?_ (fun K hK => ?_)
                   rotate_left 1
                   · simp only [List.getElem?_toArray, List.getElem?_cons_zero, List.getElem?_cons_succ]; exact rfl
                   · exact rfl
                   first
                   | (refine quiet_load_core _ rfl w.heap.size 0 _ rfl h7a ?_; refine hK _ ?_; clear hK K; try simp only [Act.put, List.setIfInBounds_toArray, List.set_cons_zero, List.set_cons_succ])
                   | (refine quiet_load_core _ rfl (w.heap.size + 1) 0 _ rfl h7b ?_; refine hK _ ?_; clear hK K; try simp only [Act.put, List.setIfInBounds_toArray, List.set_cons_zero, List.set_cons_succ])
                   | (go_big_quiet_op; refine hK _ ?_; clear hK K)))
            refine' hold_sole ?_ ?_ (fun K hK => ?_)
            rotate_left 1
            · simp only [List.getElem?_toArray, List.getElem?_cons_zero, List.getElem?_cons_succ]; exact rfl
            · exact rfl
            go_simp
            refine (Hny.out _ HC.out).mono ?_
            rintro e wn2 ⟨rfl, hb⟩
            refine hK _ _ (Hcw.out _ _ HC.out hb) ?_
            have HC := Lib.hid (Hcw.out _ _ HC.out hb)
            clear hb
            clear hK K
            try simp only [Act.put, List.setIfInBounds_toArray, List.set_cons_zero, List.set_cons_succ]
            repeat (first
                | (refine' hold_skip ?_ ?_ ?_
                   rotate_left 1
                   · simp only [List.getElem?_toArray, List.getElem?_cons_zero, List.getElem?_cons_succ]; exact rfl
                   · exact rfl
                   simp only [Act.put, List.setIfInBounds_toArray, List.set_cons_zero, List.set_cons_succ])
                | (refine' hold_want ?_ ?_ (fun K hK => ?_)
                   rotate_left 1
                   · simp only [List.getElem?_toArray, List.getElem?_cons_zero, List.getElem?_cons_succ]; exact rfl
                   · exact rfl
                   first
                   | (refine quiet_load_core _ rfl w.heap.size 0 _ rfl h7a ?_; refine hK _ ?_; clear hK K; try simp only [Act.put, List.setIfInBounds_toArray, List.set_cons_zero, List.set_cons_succ])
                   | (refine quiet_load_core _ rfl (w.heap.size + 1) 0 _ rfl h7b ?_; refine hK _ ?_; clear hK K; try simp only [Act.put, List.setIfInBounds_toArray, List.set_cons_zero, List.set_cons_succ])
                   | (go_big_quiet_op; refine hK _ ?_; clear hK K)))
            refine' hold_sole ?_ ?_ (fun K hK => ?_)
            rotate_left 1
            · simp only [List.getElem?_toArray, List.getElem?_cons_zero, List.getElem?_cons_succ]; exact rfl
            · exact rfl
            go_simp
            refine (Hnx.out _ HC.out).mono ?_
            rintro e wn3 ⟨rfl, hb⟩
            refine hK _ _ (Hcw.out _ _ HC.out hb) ?_
            have HC := Lib.hid (Hcw.out _ _ HC.out hb)
            clear hb
            clear hK K
            try simp only [Act.put, List.setIfInBounds_toArray, List.set_cons_zero, List.set_cons_succ]
            refine' hold_sole ?_ ?_ (fun K hK => ?_)
            rotate_left 1
            · simp only [List.getElem?_toArray, List.getElem?_cons_zero, List.getElem?_cons_succ]; exact rfl
            · exact rfl
            go_simp
            refine (Hse.out _ HC.out).mono ?_
            rintro e wn4 ⟨rfl, hb⟩
            refine hK _ _ (Hcw.out _ _ HC.out hb) ?_
            have HC := Lib.hid (Hcw.out _ _ HC.out hb)
            clear hb
            clear hK K
            try simp only [Act.put, List.setIfInBounds_toArray, List.set_cons_zero, List.set_cons_succ]
            repeat (first
                | (refine' hold_skip ?_ ?_ ?_
                   rotate_left 1
                   · simp only [List.getElem?_toArray, List.getElem?_cons_zero, List.getElem?_cons_succ]; exact rfl
                   · exact rfl
                   simp only [Act.put, List.setIfInBounds_toArray, List.set_cons_zero, List.set_cons_succ])
                | (refine' hold_want ?_ ?_ (fun K hK => ?_)
                   rotate_left 1
                   · simp only [List.getElem?_toArray, List.getElem?_cons_zero, List.getElem?_cons_succ]; exact rfl
                   · exact rfl
                   first
                   | (refine quiet_load_core _ rfl w.heap.size 0 _ rfl h7a ?_; refine hK _ ?_; clear hK K; try simp only [Act.put, List.setIfInBounds_toArray, List.set_cons_zero, List.set_cons_succ])
                   | (refine quiet_load_core _ rfl (w.heap.size + 1) 0 _ rfl h7b ?_; refine hK _ ?_; clear hK K; try simp only [Act.put, List.setIfInBounds_toArray, List.set_cons_zero, List.set_cons_succ])
                   | (go_big_quiet_op; refine hK _ ?_; clear hK K)))
            refine hold_done ?_
            have Hfin := Lib.hid (Hup.out _ HC.out)
            clear h7a h7b
            go_wp2_with fail
            go_ret
            exact ⟨rfl, Hfin.out⟩
          · refine wp_region_hold C (.plain 0 (.plain 1 (.plain 3 (.plain 5 (.sole 2 (.sole 4 (.plain 6 (.plain 7 (.plain 8 (.plain 9 (.plain 11 (.plain 13 (.plain 14 (.sole 10 (.sole 12 (.sole 15 (.plain 16 (.plain 17 (.plain 18 (.sole 19 (.plain 20 (.plain 21 (.plain 22 (.plain 23 (.plain 24 (.plain 26 (.plain 28 (.sole 25 (.sole 27 (.plain 29 (.plain 30 (.plain 31 (.plain 32 (.plain 33 (.plain 36 (.sole 34 (.sole 35 (.sole 37 (.plain 38 (.plain 39 (.sole 40 (.plain 41 (.plain 42 (.plain 43 (.plain 44 (.plain 45 (.plain 47 (.sole 46 (.sole 48 (.plain 49 (.plain 50 (.plain 51 .done)))))))))))))))))))))))))))))))))))))))))))))))))))) (Hcd.out _ HC.out) (by kernel_rfl) (by kernel_rfl) (fun c a d v w h => by cases d <;> exact h) ?_
            have HC := Lib.hid (Hcd.out _ HC.out)
            obtain ⟨wdr, hwdr⟩ : ∃ x, x = wr.drew := ⟨_, rfl⟩
            rw [← hwdr] at HC ⊢
            clear hwdr
            repeat (first
                | (refine' hold_skip ?_ ?_ ?_
                   rotate_left 1
                   · simp only [List.getElem?_toArray, List.getElem?_cons_zero, List.getElem?_cons_succ]; exact rfl
                   · exact rfl
                   simp only [Act.put, List.setIfInBounds_toArray, List.set_cons_zero, List.set_cons_succ])
                | (refine' hold_want ?_ ?_ (fun K hK => ?_)
                   rotate_left 1
                   · simp only [List.getElem?_toArray, List.getElem?_cons_zero, List.getElem?_cons_succ]; exact rfl
                   · exact rfl
                   first
                   | (refine quiet_load_core _ rfl w.heap.size 0 _ rfl h7a ?_; refine hK _ ?_; clear hK K; try simp only [Act.put, List.setIfInBounds_toArray, List.set_cons_zero, List.set_cons_succ])
                   | (refine quiet_load_core _ rfl (w.heap.size + 1) 0 _ rfl h7b ?_; refine hK _ ?_; clear hK K; try simp only [Act.put, List.setIfInBounds_toArray, List.set_cons_zero, List.set_cons_succ])
                   | (go_big_quiet_op; refine hK _ ?_; clear hK K)))
            refine' hold_sole ?_ ?_ (fun K hK => ?_)
            rotate_left 1
            · simp only [List.getElem?_toArray, List.getElem?_cons_zero, List.getElem?_cons_succ]; exact rfl
            · exact rfl
            go_simp
            refine (seq_walk (HA.out _ HC.out) (HB.out _ HC.out)).mono ?_
            rintro e wc ⟨zs, rfl, hat, hb⟩
            refine hK _ _ (Hcw.out _ _ HC.out hb) ?_
            have HC := Lib.hid (Hcw.out _ _ HC.out hb)
            have AZ := Lib.hid hat
            clear hat
            clear hb
            clear hK K
            try simp only [Act.put, List.setIfInBounds_toArray, List.set_cons_zero, List.set_cons_succ]
            refine' hold_sole ?_ ?_ (fun K hK => ?_)
            rotate_left 1
            · simp only [List.getElem?_toArray, List.getElem?_cons_zero, List.getElem?_cons_succ]; exact rfl
            · exact rfl
            go_simp
            refine (says_eq AZ.out (HL.out _ HC.out) E1.out).mono ?_
            rintro e wu ⟨rfl, hb⟩
            refine hK _ _ (Hcw.out _ _ HC.out hb) ?_
            have HC := Lib.hid (Hcw.out _ _ HC.out hb)
            clear hb
            clear hK K
            try simp only [Act.put, List.setIfInBounds_toArray, List.set_cons_zero, List.set_cons_succ]
            repeat (first
                | (refine' hold_skip ?_ ?_ ?_
                   rotate_left 1
                   · simp only [List.getElem?_toArray, List.getElem?_cons_zero, List.getElem?_cons_succ]; exact rfl
                   · exact rfl
                   simp only [Act.put, List.setIfInBounds_toArray, List.set_cons_zero, List.set_cons_succ])
                | (refine' hold_want ?_ ?_ (fun K hK => ?_)
                   rotate_left 1
                   · simp only [List.getElem?_toArray, List.getElem?_cons_zero, List.getElem?_cons_succ]; exact rfl
                   · exact rfl
                   first
                   | (refine quiet_load_core _ rfl w.heap.size 0 _ rfl h7a ?_; refine hK _ ?_; clear hK K; try simp only [Act.put, List.setIfInBounds_toArray, List.set_cons_zero, List.set_cons_succ])
                   | (refine quiet_load_core _ rfl (w.heap.size + 1) 0 _ rfl h7b ?_; refine hK _ ?_; clear hK K; try simp only [Act.put, List.setIfInBounds_toArray, List.set_cons_zero, List.set_cons_succ])
                   | (go_big_quiet_op; refine hK _ ?_; clear hK K)))
            refine' hold_sole ?_ ?_ (fun K hK => ?_)
            rotate_left 1
            · simp only [List.getElem?_toArray, List.getElem?_cons_zero, List.getElem?_cons_succ]; exact rfl
            · exact rfl
            go_simp
            refine (alt_walk (HA.out _ HC.out) (HB.out _ HC.out)).mono ?_
            rintro e wt ⟨zs, rfl, hat, hb⟩
            refine hK _ _ (Hcw.out _ _ HC.out hb) ?_
            have HC := Lib.hid (Hcw.out _ _ HC.out hb)
            have AZ := Lib.hid hat
            clear hat
            clear hb
            clear hK K
            try simp only [Act.put, List.setIfInBounds_toArray, List.set_cons_zero, List.set_cons_succ]
            refine' hold_sole ?_ ?_ (fun K hK => ?_)
            rotate_left 1
            · simp only [List.getElem?_toArray, List.getElem?_cons_zero, List.getElem?_cons_succ]; exact rfl
            · exact rfl
            go_simp
            refine (says_eq AZ.out (HL.out _ HC.out) (E2.out.trans (Bool.true_or _))).mono ?_
            rintro e wu ⟨rfl, hb⟩
            refine hK _ _ (Hcw.out _ _ HC.out hb) ?_
            have HC := Lib.hid (Hcw.out _ _ HC.out hb)
            clear hb
            clear hK K
            try simp only [Act.put, List.setIfInBounds_toArray, List.set_cons_zero, List.set_cons_succ]
            refine' hold_sole ?_ ?_ (fun K hK => ?_)
            rotate_left 1
            · simp only [List.getElem?_toArray, List.getElem?_cons_zero, List.getElem?_cons_succ]; exact rfl
            · exact rfl
            go_simp
            refine (Hsx.out _ HC.out).mono ?_
            rintro e wx ⟨rfl, hb⟩
            refine hK _ _ (Hcw.out _ _ HC.out hb) ?_
            have HC := Lib.hid (Hcw.out _ _ HC.out hb)
            clear hb
            clear hK K
            try simp only [Act.put, List.setIfInBounds_toArray, List.set_cons_zero, List.set_cons_succ]
            repeat (first
                | (refine' hold_skip ?_ ?_ ?_
                   rotate_left 1
                   · simp only [List.getElem?_toArray, List.getElem?_cons_zero, List.getElem?_cons_succ]; exact rfl
                   · exact rfl
                   simp only [Act.put, List.setIfInBounds_toArray, List.set_cons_zero, List.set_cons_succ])
                | (refine' hold_want ?_ ?_ (fun K hK => ?_)
                   rotate_left 1
                   · simp only [List.getElem?_toArray, List.getElem?_cons_zero, List.getElem?_cons_succ]; exact rfl
                   · exact rfl
                   first
                   | (refine quiet_load_core _ rfl w.heap.size 0 _ rfl h7a ?_; refine hK _ ?_; clear hK K; try simp only [Act.put, List.setIfInBounds_toArray, List.set_cons_zero, List.set_cons_succ])
                   | (refine quiet_load_core _ rfl (w.heap.size + 1) 0 _ rfl h7b ?_; refine hK _ ?_; clear hK K; try simp only [Act.put, List.setIfInBounds_toArray, List.set_cons_zero, List.set_cons_succ])
                   | (go_big_quiet_op; refine hK _ ?_; clear hK K)))
            refine' hold_sole_skip ?_ ?_ ?_
            rotate_left 1
            · simp only [List.getElem?_toArray, List.getElem?_cons_zero, List.getElem?_cons_succ]; exact rfl
            · exact rfl
            try simp only [Act.put, List.setIfInBounds_toArray, List.set_cons_zero, List.set_cons_succ]
            repeat (first
                | (refine' hold_skip ?_ ?_ ?_
                   rotate_left 1
                   · simp only [List.getElem?_toArray, List.getElem?_cons_zero, List.getElem?_cons_succ]; exact rfl
                   · exact rfl
                   simp only [Act.put, List.setIfInBounds_toArray, List.set_cons_zero, List.set_cons_succ])
                | (refine' hold_want ?_ ?_ (fun K hK => ?_)
                   rotate_left 1
                   · simp only [List.getElem?_toArray, List.getElem?_cons_zero, List.getElem?_cons_succ]; exact rfl
                   · exact rfl
                   first
                   | (refine quiet_load_core _ rfl w.heap.size 0 _ rfl h7a ?_; refine hK _ ?_; clear hK K; try simp only [Act.put, List.setIfInBounds_toArray, List.set_cons_zero, List.set_cons_succ])
                   | (refine quiet_load_core _ rfl (w.heap.size + 1) 0 _ rfl h7b ?_; refine hK _ ?_; clear hK K; try simp only [Act.put, List.setIfInBounds_toArray, List.set_cons_zero, List.set_cons_succ])
                   | (go_big_quiet_op; refine hK _ ?_; clear hK K)))
            refine' hold_sole ?_ ?_ (fun K hK => ?_)
            rotate_left 1
            · simp only [List.getElem?_toArray, List.getElem?_cons_zero, List.getElem?_cons_succ]; exact rfl
            · exact rfl
            go_simp
            refine (star_walk (HA.out _ HC.out)).mono ?_
            rintro e ws ⟨zs, rfl, hat, hb⟩
            refine hK _ _ (Hcw.out _ _ HC.out hb) ?_
            have HC := Lib.hid (Hcw.out _ _ HC.out hb)
            have AZ := Lib.hid hat
            clear hat
            clear hb
            clear hK K
            try simp only [Act.put, List.setIfInBounds_toArray, List.set_cons_zero, List.set_cons_succ]
            refine' hold_sole ?_ ?_ (fun K hK => ?_)
            rotate_left 1
            · simp only [List.getElem?_toArray, List.getElem?_cons_zero, List.getElem?_cons_succ]; exact rfl
            · exact rfl
            go_simp
            refine (says_eq AZ.out (HL.out _ HC.out) E3.out).mono ?_
            rintro e wu ⟨rfl, hb⟩
            refine hK _ _ (Hcw.out _ _ HC.out hb) ?_
            have HC := Lib.hid (Hcw.out _ _ HC.out hb)
            clear hb
            clear hK K
            try simp only [Act.put, List.setIfInBounds_toArray, List.set_cons_zero, List.set_cons_succ]
            repeat (first
                | (refine' hold_skip ?_ ?_ ?_
                   rotate_left 1
                   · simp only [List.getElem?_toArray, List.getElem?_cons_zero, List.getElem?_cons_succ]; exact rfl
                   · exact rfl
                   simp only [Act.put, List.setIfInBounds_toArray, List.set_cons_zero, List.set_cons_succ])
                | (refine' hold_want ?_ ?_ (fun K hK => ?_)
                   rotate_left 1
                   · simp only [List.getElem?_toArray, List.getElem?_cons_zero, List.getElem?_cons_succ]; exact rfl
                   · exact rfl
                   first
                   | (refine quiet_load_core _ rfl w.heap.size 0 _ rfl h7a ?_; refine hK _ ?_; clear hK K; try simp only [Act.put, List.setIfInBounds_toArray, List.set_cons_zero, List.set_cons_succ])
                   | (refine quiet_load_core _ rfl (w.heap.size + 1) 0 _ rfl h7b ?_; refine hK _ ?_; clear hK K; try simp only [Act.put, List.setIfInBounds_toArray, List.set_cons_zero, List.set_cons_succ])
                   | (go_big_quiet_op; refine hK _ ?_; clear hK K)))
            refine' hold_sole ?_ ?_ (fun K hK => ?_)
            rotate_left 1
            · simp only [List.getElem?_toArray, List.getElem?_cons_zero, List.getElem?_cons_succ]; exact rfl
            · exact rfl
            go_simp
            refine (seq_walk (HA.out _ HC.out) (HB.out _ HC.out)).mono ?_
            rintro e wc ⟨zs, rfl, hat, hb⟩
            refine hK _ _ (Hcw.out _ _ HC.out hb) ?_
            have HC := Lib.hid (Hcw.out _ _ HC.out hb)
            have AZ := Lib.hid hat
            clear hat
            clear hb
            clear hK K
            try simp only [Act.put, List.setIfInBounds_toArray, List.set_cons_zero, List.set_cons_succ]
            refine' hold_sole ?_ ?_ (fun K hK => ?_)
            rotate_left 1
            · simp only [List.getElem?_toArray, List.getElem?_cons_zero, List.getElem?_cons_succ]; exact rfl
            · exact rfl
            go_simp
            refine (null_eq AZ.out (E4.out.trans (Bool.false_and _))).mono ?_
            rintro e wv ⟨rfl, hb⟩
            refine hK _ _ (Hcw.out _ _ HC.out hb) ?_
            have HC := Lib.hid (Hcw.out _ _ HC.out hb)
            clear hb
            clear hK K
            try simp only [Act.put, List.setIfInBounds_toArray, List.set_cons_zero, List.set_cons_succ]
            refine' hold_sole ?_ ?_ (fun K hK => ?_)
            rotate_left 1
            · simp only [List.getElem?_toArray, List.getElem?_cons_zero, List.getElem?_cons_succ]; exact rfl
            · exact rfl
            go_simp
            refine (Hnx.out _ HC.out).mono ?_
            rintro e wn1 ⟨rfl, hb⟩
            refine hK _ _ (Hcw.out _ _ HC.out hb) ?_
            have HC := Lib.hid (Hcw.out _ _ HC.out hb)
            clear hb
            clear hK K
            try simp only [Act.put, List.setIfInBounds_toArray, List.set_cons_zero, List.set_cons_succ]
            repeat (first
                | (refine' hold_skip ?_ ?_ ?_
                   rotate_left 1
                   · simp only [List.getElem?_toArray, List.getElem?_cons_zero, List.getElem?_cons_succ]; exact rfl
                   · exact rfl
                   simp only [Act.put, List.setIfInBounds_toArray, List.set_cons_zero, List.set_cons_succ])
                | (refine' hold_want ?_ ?_ (fun K hK => ?_)
                   rotate_left 1
                   · simp only [List.getElem?_toArray, List.getElem?_cons_zero, List.getElem?_cons_succ]; exact rfl
                   · exact rfl
                   first
                   | (refine quiet_load_core _ rfl w.heap.size 0 _ rfl h7a ?_; refine hK _ ?_; clear hK K; try simp only [Act.put, List.setIfInBounds_toArray, List.set_cons_zero, List.set_cons_succ])
                   | (refine quiet_load_core _ rfl (w.heap.size + 1) 0 _ rfl h7b ?_; refine hK _ ?_; clear hK K; try simp only [Act.put, List.setIfInBounds_toArray, List.set_cons_zero, List.set_cons_succ])
                   | (go_big_quiet_op; refine hK _ ?_; clear hK K)))
            refine' hold_sole_skip ?_ ?_ ?_
            rotate_left 1
            · simp only [List.getElem?_toArray, List.getElem?_cons_zero, List.getElem?_cons_succ]; exact rfl
            · exact rfl
            try simp only [Act.put, List.setIfInBounds_toArray, List.set_cons_zero, List.set_cons_succ]
            repeat (first
                | (refine' hold_skip ?_ ?_ ?_
                   rotate_left 1
                   · simp only [List.getElem?_toArray, List.getElem?_cons_zero, List.getElem?_cons_succ]; exact rfl
                   · exact rfl
                   simp only [Act.put, List.setIfInBounds_toArray, List.set_cons_zero, List.set_cons_succ])
                | (refine' hold_want ?_ ?_ (fun K hK => ?_)
                   rotate_left 1
                   · simp only [List.getElem?_toArray, List.getElem?_cons_zero, List.getElem?_cons_succ]; exact rfl
                   · exact rfl
                   first
                   | (refine quiet_load_core _ rfl w.heap.size 0 _ rfl h7a ?_; refine hK _ ?_; clear hK K; try simp only [Act.put, List.setIfInBounds_toArray, List.set_cons_zero, List.set_cons_succ])
                   | (refine quiet_load_core _ rfl (w.heap.size + 1) 0 _ rfl h7b ?_; refine hK _ ?_; clear hK K; try simp only [Act.put, List.setIfInBounds_toArray, List.set_cons_zero, List.set_cons_succ])
                   | (go_big_quiet_op; refine hK _ ?_; clear hK K)))
            refine' hold_sole ?_ ?_ (fun K hK => ?_)
            rotate_left 1
            · simp only [List.getElem?_toArray, List.getElem?_cons_zero, List.getElem?_cons_succ]; exact rfl
            · exact rfl
            go_simp
            refine (Hnx.out _ HC.out).mono ?_
            rintro e wn3 ⟨rfl, hb⟩
            refine hK _ _ (Hcw.out _ _ HC.out hb) ?_
            have HC := Lib.hid (Hcw.out _ _ HC.out hb)
            clear hb
            clear hK K
            try simp only [Act.put, List.setIfInBounds_toArray, List.set_cons_zero, List.set_cons_succ]
            refine' hold_sole ?_ ?_ (fun K hK => ?_)
            rotate_left 1
            · simp only [List.getElem?_toArray, List.getElem?_cons_zero, List.getElem?_cons_succ]; exact rfl
            · exact rfl
            go_simp
            refine (Hse.out _ HC.out).mono ?_
            rintro e wn4 ⟨rfl, hb⟩
            refine hK _ _ (Hcw.out _ _ HC.out hb) ?_
            have HC := Lib.hid (Hcw.out _ _ HC.out hb)
            clear hb
            clear hK K
            try simp only [Act.put, List.setIfInBounds_toArray, List.set_cons_zero, List.set_cons_succ]
            repeat (first
                | (refine' hold_skip ?_ ?_ ?_
                   rotate_left 1
                   · simp only [List.getElem?_toArray, List.getElem?_cons_zero, List.getElem?_cons_succ]; exact rfl
                   · exact rfl
                   simp only [Act.put, List.setIfInBounds_toArray, List.set_cons_zero, List.set_cons_succ])
                | (refine' hold_want ?_ ?_ (fun K hK => ?_)
                   rotate_left 1
                   · simp only [List.getElem?_toArray, List.getElem?_cons_zero, List.getElem?_cons_succ]; exact rfl
                   · exact rfl
                   first
                   | (refine quiet_load_core _ rfl w.heap.size 0 _ rfl h7a ?_; refine hK _ ?_; clear hK K; try simp only [Act.put, List.setIfInBounds_toArray, List.set_cons_zero, List.set_cons_succ])
                   | (refine quiet_load_core _ rfl (w.heap.size + 1) 0 _ rfl h7b ?_; refine hK _ ?_; clear hK K; try simp only [Act.put, List.setIfInBounds_toArray, List.set_cons_zero, List.set_cons_succ])
                   | (go_big_quiet_op; refine hK _ ?_; clear hK K)))
            refine hold_done ?_
            have Hfin := Lib.hid (Hup.out _ HC.out)
            clear h7a h7b
            go_wp2_with fail
            go_ret
            exact ⟨rfl, Hfin.out⟩
          · refine wp_region_hold C (.plain 0 (.plain 1 (.plain 3 (.plain 5 (.sole 2 (.sole 4 (.plain 6 (.plain 7 (.plain 8 (.plain 9 (.plain 11 (.plain 13 (.plain 14 (.sole 10 (.sole 12 (.sole 15 (.plain 16 (.plain 17 (.plain 18 (.sole 19 (.plain 20 (.plain 21 (.plain 22 (.plain 23 (.plain 24 (.plain 26 (.plain 28 (.sole 25 (.sole 27 (.plain 29 (.plain 30 (.plain 31 (.plain 32 (.plain 33 (.plain 36 (.sole 34 (.sole 35 (.sole 37 (.plain 38 (.plain 39 (.sole 40 (.plain 41 (.plain 42 (.plain 43 (.plain 44 (.plain 45 (.plain 47 (.sole 46 (.sole 48 (.plain 49 (.plain 50 (.plain 51 .done)))))))))))))))))))))))))))))))))))))))))))))))))))) (Hcd.out _ HC.out) (by kernel_rfl) (by kernel_rfl) (fun c a d v w h => by cases d <;> exact h) ?_
            have HC := Lib.hid (Hcd.out _ HC.out)
            obtain ⟨wdr, hwdr⟩ : ∃ x, x = wr.drew := ⟨_, rfl⟩
            rw [← hwdr] at HC ⊢
            clear hwdr
            repeat (first
                | (refine' hold_skip ?_ ?_ ?_
                   rotate_left 1
                   · simp only [List.getElem?_toArray, List.getElem?_cons_zero, List.getElem?_cons_succ]; exact rfl
                   · exact rfl
                   simp only [Act.put, List.setIfInBounds_toArray, List.set_cons_zero, List.set_cons_succ])
                | (refine' hold_want ?_ ?_ (fun K hK => ?_)
                   rotate_left 1
                   · simp only [List.getElem?_toArray, List.getElem?_cons_zero, List.getElem?_cons_succ]; exact rfl
                   · exact rfl
                   first
                   | (refine quiet_load_core _ rfl w.heap.size 0 _ rfl h7a ?_; refine hK _ ?_; clear hK K; try simp only [Act.put, List.setIfInBounds_toArray, List.set_cons_zero, List.set_cons_succ])
                   | (refine quiet_load_core _ rfl (w.heap.size + 1) 0 _ rfl h7b ?_; refine hK _ ?_; clear hK K; try simp only [Act.put, List.setIfInBounds_toArray, List.set_cons_zero, List.set_cons_succ])
                   | (go_big_quiet_op; refine hK _ ?_; clear hK K)))
            refine' hold_sole ?_ ?_ (fun K hK => ?_)
            rotate_left 1
            · simp only [List.getElem?_toArray, List.getElem?_cons_zero, List.getElem?_cons_succ]; exact rfl
            · exact rfl
            go_simp
            refine (seq_walk (HA.out _ HC.out) (HB.out _ HC.out)).mono ?_
            rintro e wc ⟨zs, rfl, hat, hb⟩
            refine hK _ _ (Hcw.out _ _ HC.out hb) ?_
            have HC := Lib.hid (Hcw.out _ _ HC.out hb)
            have AZ := Lib.hid hat
            clear hat
            clear hb
            clear hK K
            try simp only [Act.put, List.setIfInBounds_toArray, List.set_cons_zero, List.set_cons_succ]
            refine' hold_sole ?_ ?_ (fun K hK => ?_)
            rotate_left 1
            · simp only [List.getElem?_toArray, List.getElem?_cons_zero, List.getElem?_cons_succ]; exact rfl
            · exact rfl
            go_simp
            refine (says_eq AZ.out (HL.out _ HC.out) E1.out).mono ?_
            rintro e wu ⟨rfl, hb⟩
            refine hK _ _ (Hcw.out _ _ HC.out hb) ?_
            have HC := Lib.hid (Hcw.out _ _ HC.out hb)
            clear hb
            clear hK K
            try simp only [Act.put, List.setIfInBounds_toArray, List.set_cons_zero, List.set_cons_succ]
            repeat (first
                | (refine' hold_skip ?_ ?_ ?_
                   rotate_left 1
                   · simp only [List.getElem?_toArray, List.getElem?_cons_zero, List.getElem?_cons_succ]; exact rfl
                   · exact rfl
                   simp only [Act.put, List.setIfInBounds_toArray, List.set_cons_zero, List.set_cons_succ])
                | (refine' hold_want ?_ ?_ (fun K hK => ?_)
                   rotate_left 1
                   · simp only [List.getElem?_toArray, List.getElem?_cons_zero, List.getElem?_cons_succ]; exact rfl
                   · exact rfl
                   first
                   | (refine quiet_load_core _ rfl w.heap.size 0 _ rfl h7a ?_; refine hK _ ?_; clear hK K; try simp only [Act.put, List.setIfInBounds_toArray, List.set_cons_zero, List.set_cons_succ])
                   | (refine quiet_load_core _ rfl (w.heap.size + 1) 0 _ rfl h7b ?_; refine hK _ ?_; clear hK K; try simp only [Act.put, List.setIfInBounds_toArray, List.set_cons_zero, List.set_cons_succ])
                   | (go_big_quiet_op; refine hK _ ?_; clear hK K)))
            refine' hold_sole ?_ ?_ (fun K hK => ?_)
            rotate_left 1
            · simp only [List.getElem?_toArray, List.getElem?_cons_zero, List.getElem?_cons_succ]; exact rfl
            · exact rfl
            go_simp
            refine (alt_walk (HA.out _ HC.out) (HB.out _ HC.out)).mono ?_
            rintro e wt ⟨zs, rfl, hat, hb⟩
            refine hK _ _ (Hcw.out _ _ HC.out hb) ?_
            have HC := Lib.hid (Hcw.out _ _ HC.out hb)
            have AZ := Lib.hid hat
            clear hat
            clear hb
            clear hK K
            try simp only [Act.put, List.setIfInBounds_toArray, List.set_cons_zero, List.set_cons_succ]
            refine' hold_sole ?_ ?_ (fun K hK => ?_)
            rotate_left 1
            · simp only [List.getElem?_toArray, List.getElem?_cons_zero, List.getElem?_cons_succ]; exact rfl
            · exact rfl
            go_simp
            refine (says_eq AZ.out (HL.out _ HC.out) (E2.out.trans (Bool.true_or _))).mono ?_
            rintro e wu ⟨rfl, hb⟩
            refine hK _ _ (Hcw.out _ _ HC.out hb) ?_
            have HC := Lib.hid (Hcw.out _ _ HC.out hb)
            clear hb
            clear hK K
            try simp only [Act.put, List.setIfInBounds_toArray, List.set_cons_zero, List.set_cons_succ]
            refine' hold_sole ?_ ?_ (fun K hK => ?_)
            rotate_left 1
            · simp only [List.getElem?_toArray, List.getElem?_cons_zero, List.getElem?_cons_succ]; exact rfl
            · exact rfl
            go_simp
            refine (Hsx.out _ HC.out).mono ?_
            rintro e wx ⟨rfl, hb⟩
            refine hK _ _ (Hcw.out _ _ HC.out hb) ?_
            have HC := Lib.hid (Hcw.out _ _ HC.out hb)
            clear hb
            clear hK K
            try simp only [Act.put, List.setIfInBounds_toArray, List.set_cons_zero, List.set_cons_succ]
            repeat (first
                | (refine' hold_skip ?_ ?_ ?_
                   rotate_left 1
                   · simp only [List.getElem?_toArray, List.getElem?_cons_zero, List.getElem?_cons_succ]; exact rfl
                   · exact rfl
                   simp only [Act.put, List.setIfInBounds_toArray, List.set_cons_zero, List.set_cons_succ])
                | (refine' hold_want ?_ ?_ (fun K hK => ?_)
                   rotate_left 1
                   · simp only [List.getElem?_toArray, List.getElem?_cons_zero, List.getElem?_cons_succ]; exact rfl
                   · exact rfl
                   first
                   | (refine quiet_load_core _ rfl w.heap.size 0 _ rfl h7a ?_; refine hK _ ?_; clear hK K; try simp only [Act.put, List.setIfInBounds_toArray, List.set_cons_zero, List.set_cons_succ])
                   | (refine quiet_load_core _ rfl (w.heap.size + 1) 0 _ rfl h7b ?_; refine hK _ ?_; clear hK K; try simp only [Act.put, List.setIfInBounds_toArray, List.set_cons_zero, List.set_cons_succ])
                   | (go_big_quiet_op; refine hK _ ?_; clear hK K)))
            refine' hold_sole_skip ?_ ?_ ?_
            rotate_left 1
            · simp only [List.getElem?_toArray, List.getElem?_cons_zero, List.getElem?_cons_succ]; exact rfl
            · exact rfl
            try simp only [Act.put, List.setIfInBounds_toArray, List.set_cons_zero, List.set_cons_succ]
            repeat (first
                | (refine' hold_skip ?_ ?_ ?_
                   rotate_left 1
                   · simp only [List.getElem?_toArray, List.getElem?_cons_zero, List.getElem?_cons_succ]; exact rfl
                   · exact rfl
                   simp only [Act.put, List.setIfInBounds_toArray, List.set_cons_zero, List.set_cons_succ])
                | (refine' hold_want ?_ ?_ (fun K hK => ?_)
                   rotate_left 1
                   · simp only [List.getElem?_toArray, List.getElem?_cons_zero, List.getElem?_cons_succ]; exact rfl
                   · exact rfl
                   first
                   | (refine quiet_load_core _ rfl w.heap.size 0 _ rfl h7a ?_; refine hK _ ?_; clear hK K; try simp only [Act.put, List.setIfInBounds_toArray, List.set_cons_zero, List.set_cons_succ])
                   | (refine quiet_load_core _ rfl (w.heap.size + 1) 0 _ rfl h7b ?_; refine hK _ ?_; clear hK K; try simp only [Act.put, List.setIfInBounds_toArray, List.set_cons_zero, List.set_cons_succ])
                   | (go_big_quiet_op; refine hK _ ?_; clear hK K)))
            refine' hold_sole ?_ ?_ (fun K hK => ?_)
            rotate_left 1
            · simp only [List.getElem?_toArray, List.getElem?_cons_zero, List.getElem?_cons_succ]; exact rfl
            · exact rfl
            go_simp
            refine (star_walk (HA.out _ HC.out)).mono ?_
            rintro e ws ⟨zs, rfl, hat, hb⟩
            refine hK _ _ (Hcw.out _ _ HC.out hb) ?_
            have HC := Lib.hid (Hcw.out _ _ HC.out hb)
            have AZ := Lib.hid hat
            clear hat
            clear hb
            clear hK K
            try simp only [Act.put, List.setIfInBounds_toArray, List.set_cons_zero, List.set_cons_succ]
            refine' hold_sole ?_ ?_ (fun K hK => ?_)
            rotate_left 1
            · simp only [List.getElem?_toArray, List.getElem?_cons_zero, List.getElem?_cons_succ]; exact rfl
            · exact rfl
            go_simp
            refine (says_eq AZ.out (HL.out _ HC.out) E3.out).mono ?_
            rintro e wu ⟨rfl, hb⟩
            refine hK _ _ (Hcw.out _ _ HC.out hb) ?_
            have HC := Lib.hid (Hcw.out _ _ HC.out hb)
            clear hb
            clear hK K
            try simp only [Act.put, List.setIfInBounds_toArray, List.set_cons_zero, List.set_cons_succ]
            repeat (first
                | (refine' hold_skip ?_ ?_ ?_
                   rotate_left 1
                   · simp only [List.getElem?_toArray, List.getElem?_cons_zero, List.getElem?_cons_succ]; exact rfl
                   · exact rfl
                   simp only [Act.put, List.setIfInBounds_toArray, List.set_cons_zero, List.set_cons_succ])
                | (refine' hold_want ?_ ?_ (fun K hK => ?_)
                   rotate_left 1
                   · simp only [List.getElem?_toArray, List.getElem?_cons_zero, List.getElem?_cons_succ]; exact rfl
                   · exact rfl
                   first
                   | (refine quiet_load_core _ rfl w.heap.size 0 _ rfl h7a ?_; refine hK _ ?_; clear hK K; try simp only [Act.put, List.setIfInBounds_toArray, List.set_cons_zero, List.set_cons_succ])
                   | (refine quiet_load_core _ rfl (w.heap.size + 1) 0 _ rfl h7b ?_; refine hK _ ?_; clear hK K; try simp only [Act.put, List.setIfInBounds_toArray, List.set_cons_zero, List.set_cons_succ])
                   | (go_big_quiet_op; refine hK _ ?_; clear hK K)))
            refine' hold_sole ?_ ?_ (fun K hK => ?_)
            rotate_left 1
            · simp only [List.getElem?_toArray, List.getElem?_cons_zero, List.getElem?_cons_succ]; exact rfl
            · exact rfl
            go_simp
            refine (seq_walk (HA.out _ HC.out) (HB.out _ HC.out)).mono ?_
            rintro e wc ⟨zs, rfl, hat, hb⟩
            refine hK _ _ (Hcw.out _ _ HC.out hb) ?_
            have HC := Lib.hid (Hcw.out _ _ HC.out hb)
            have AZ := Lib.hid hat
            clear hat
            clear hb
            clear hK K
            try simp only [Act.put, List.setIfInBounds_toArray, List.set_cons_zero, List.set_cons_succ]
            refine' hold_sole ?_ ?_ (fun K hK => ?_)
            rotate_left 1
            · simp only [List.getElem?_toArray, List.getElem?_cons_zero, List.getElem?_cons_succ]; exact rfl
            · exact rfl
            go_simp
            refine (null_eq AZ.out (E4.out.trans (Bool.true_and _))).mono ?_
            rintro e wv ⟨rfl, hb⟩
            refine hK _ _ (Hcw.out _ _ HC.out hb) ?_
            have HC := Lib.hid (Hcw.out _ _ HC.out hb)
            clear hb
            clear hK K
            try simp only [Act.put, List.setIfInBounds_toArray, List.set_cons_zero, List.set_cons_succ]
            refine' hold_sole ?_ ?_ (fun K hK => ?_)
            rotate_left 1
            · simp only [List.getElem?_toArray, List.getElem?_cons_zero, List.getElem?_cons_succ]; exact rfl
            · exact rfl
            go_simp
            refine (Hnx.out _ HC.out).mono ?_
            rintro e wn1 ⟨rfl, hb⟩
            refine hK _ _ (Hcw.out _ _ HC.out hb) ?_
            have HC := Lib.hid (Hcw.out _ _ HC.out hb)
            clear hb
            clear hK K
            try simp only [Act.put, List.setIfInBounds_toArray, List.set_cons_zero, List.set_cons_succ]
            repeat (first
                | (refine' hold_skip ?_ ?_ ?_
                   rotate_left 1
                   · simp only [List.getElem?_toArray, List.getElem?_cons_zero, List.getElem?_cons_succ]; exact rfl
                   · exact rfl
                   simp only [Act.put, List.setIfInBounds_toArray, List.set_cons_zero, List.set_cons_succ])
                | (refine' hold_want ?_ ?_ (fun K hK => ?_)
                   rotate_left 1
                   · simp only [List.getElem?_toArray, List.getElem?_cons_zero, List.getElem?_cons_succ]; exact rfl
                   · exact rfl
                   first
                   | (refine quiet_load_core _ rfl w.heap.size 0 _ rfl h7a ?_; refine hK _ ?_; clear hK K; try simp only [Act.put, List.setIfInBounds_toArray, List.set_cons_zero, List.set_cons_succ])
                   | (refine quiet_load_core _ rfl (w.heap.size + 1) 0 _ rfl h7b ?_; refine hK _ ?_; clear hK K; try simp only [Act.put, List.setIfInBounds_toArray, List.set_cons_zero, List.set_cons_succ])
                   | (go_big_quiet_op; refine hK _ ?_; clear hK K)))
            refine' hold_sole ?_ ?_ (fun K hK => ?_)
            rotate_left 1
            · simp only [List.getElem?_toArray, List.getElem?_cons_zero, List.getElem?_cons_succ]; exact rfl
            · exact rfl
            go_simp
            refine (Hny.out _ HC.out).mono ?_
            rintro e wn2 ⟨rfl, hb⟩
            refine hK _ _ (Hcw.out _ _ HC.out hb) ?_
            have HC := Lib.hid (Hcw.out _ _ HC.out hb)
            clear hb
            clear hK K
            try simp only [Act.put, List.setIfInBounds_toArray, List.set_cons_zero, List.set_cons_succ]
            repeat (first
                | (refine' hold_skip ?_ ?_ ?_
                   rotate_left 1
                   · simp only [List.getElem?_toArray, List.getElem?_cons_zero, List.getElem?_cons_succ]; exact rfl
                   · exact rfl
                   simp only [Act.put, List.setIfInBounds_toArray, List.set_cons_zero, List.set_cons_succ])
                | (refine' hold_want ?_ ?_ (fun K hK => ?_)
                   rotate_left 1
                   · simp only [List.getElem?_toArray, List.getElem?_cons_zero, List.getElem?_cons_succ]; exact rfl
                   · exact rfl
                   first
                   | (refine quiet_load_core _ rfl w.heap.size 0 _ rfl h7a ?_; refine hK _ ?_; clear hK K; try simp only [Act.put, List.setIfInBounds_toArray, List.set_cons_zero, List.set_cons_succ])
                   | (refine quiet_load_core _ rfl (w.heap.size + 1) 0 _ rfl h7b ?_; refine hK _ ?_; clear hK K; try simp only [Act.put, List.setIfInBounds_toArray, List.set_cons_zero, List.set_cons_succ])
                   | (go_big_quiet_op; refine hK _ ?_; clear hK K)))
            refine' hold_sole ?_ ?_ (fun K hK => ?_)
            rotate_left 1
            · simp only [List.getElem?_toArray, List.getElem?_cons_zero, List.getElem?_cons_succ]; exact rfl
            · exact rfl
            go_simp
            refine (Hnx.out _ HC.out).mono ?_
            rintro e wn3 ⟨rfl, hb⟩
            refine hK _ _ (Hcw.out _ _ HC.out hb) ?_
            have HC := Lib.hid (Hcw.out _ _ HC.out hb)
            clear hb
            clear hK K
            try simp only [Act.put, List.setIfInBounds_toArray, List.set_cons_zero, List.set_cons_succ]
            refine' hold_sole ?_ ?_ (fun K hK => ?_)
            rotate_left 1
            · simp only [List.getElem?_toArray, List.getElem?_cons_zero, List.getElem?_cons_succ]; exact rfl
            · exact rfl
            go_simp
            refine (Hse.out _ HC.out).mono ?_
            rintro e wn4 ⟨rfl, hb⟩
            refine hK _ _ (Hcw.out _ _ HC.out hb) ?_
            have HC := Lib.hid (Hcw.out _ _ HC.out hb)
            clear hb
            clear hK K
            try simp only [Act.put, List.setIfInBounds_toArray, List.set_cons_zero, List.set_cons_succ]
            repeat (first
                | (refine' hold_skip ?_ ?_ ?_
                   rotate_left 1
                   · simp only [List.getElem?_toArray, List.getElem?_cons_zero, List.getElem?_cons_succ]; exact rfl
                   · exact rfl
                   simp only [Act.put, List.setIfInBounds_toArray, List.set_cons_zero, List.set_cons_succ])
                | (refine' hold_want ?_ ?_ (fun K hK => ?_)
                   rotate_left 1
                   · simp only [List.getElem?_toArray, List.getElem?_cons_zero, List.getElem?_cons_succ]; exact rfl
                   · exact rfl
                   first
                   | (refine quiet_load_core _ rfl w.heap.size 0 _ rfl h7a ?_; refine hK _ ?_; clear hK K; try simp only [Act.put, List.setIfInBounds_toArray, List.set_cons_zero, List.set_cons_succ])
                   | (refine quiet_load_core _ rfl (w.heap.size + 1) 0 _ rfl h7b ?_; refine hK _ ?_; clear hK K; try simp only [Act.put, List.setIfInBounds_toArray, List.set_cons_zero, List.set_cons_succ])
                   | (go_big_quiet_op; refine hK _ ?_; clear hK K)))
            refine hold_done ?_
            have Hfin := Lib.hid (Hup.out _ HC.out)
            clear h7a h7b
            go_wp2_with fail
            go_ret
            exact ⟨rfl, Hfin.out⟩
end Go.Proofs.Ytobhjfhmhhahoaa
