/- The walk of the law on one set more. -/
import Derived.Test.YtnhlopbpggdneaaDoorBlockMoreMath
import Derived.Test.YtnhlopbpggdneaaDoorBlockAwake
import Derived.Test.YtnhlopbpggdneaaDoorEager
import Derived.Test.YtnhlopbpggdneaaDoorBlockAppend
import Derived.Deep.DeepCutAuto
namespace Go.Proofs.YtnhlopbpggdneaaDoor
open Go.RowKit

set_option maxHeartbeats 4000000 in
theorem blockMore_walk (a : Option Addr) (n cap : Nat) (L : List (BitVec 256)) (s : BitVec 256) (w : World) (hl : SetsAt w a n cap L) (hT : TabAt 0 Lib.deBruijn64tab w) :
    Calls Tryd.prog 6 #[.slice a n cap, SV s] w fun e w' => e = .returned (.bool true) ∧ Below w.heap.size w w' := by
  obtain ⟨hnl, hmax, hcells⟩ := hl
  have hl : SetsAt w a n cap L := ⟨hnl, hmax, hcells⟩
  unfold maxLen at hmax
  have Hnl := Lib.hid hnl
  clear hnl hcells
  have hbox : SetAt (w.alloc (.cells #[.int .u64 (word s 0), .int .u64 (word s 1), .int .u64 (word s 2), .int .u64 (word s 3)] 27)) w.heap.size s := setAt_made w s
  go_enter Tryd.func6, Tryd.ntmps6
  go_wp2_with fail
  refine (awake_any _ (tab_alloc hT _)).mono ?_
  rintro e w1 ⟨rfl, hb1⟩
  have hn1 : Below w.heap.size w w1 := ((Below.refl _ _).alloc (Nat.le_refl _) _).trans (hb1.mono (by simp))
  have hT1 := tab_below hT hn1 (tab_pos hT)
  have hl1 := hl.below hn1 rfl
  have hbox1 := setAt_below hbox hb1 (by simp)
  by_cases hbig : 10 < n
  · have hd : decide ((10 : Int) < n) = true := by simp; omega
    go_wp2_with fail
    go_ret
    exact ⟨rfl, hn1⟩
  · have hd : decide ((10 : Int) < n) = false := by simp; omega
    go_wp2_with fail
    refine (blockOf_any a n cap L w1 hl1 hT1).mono ?_
    rintro e w2 ⟨pa, pcap, rfl, hp, hb2, hoff⟩
    have hT2 := tab_below hT1 hb2 (tab_pos hT1)
    have hbw2 := hn1.trans (hb2.mono hn1.size)
    have hl2 := hl1.below hb2 rfl
    have hg1 := setAt_lt hbox1
    have hbox2 := setAt_below hbox1 hb2 hg1
    have hg2 := setAt_lt hbox2
    have hld : ∀ w', (∃ L : Later w2, w' = L.val) → Set4 w' w.heap.size 0 s := fun w' hw' => by obtain ⟨L', rfl⟩ := hw'; exact (setAt_below hbox2 L'.ok hg2).four
    go_upto_region 6 with fail
    have hne := Later.nonempty w2
    go_cut [6] from 19 to 25 (fun v wx => ∃ qa qcap, v = .slice qa (partsOf (L ++ [s])).length qcap ∧ SetsAt wx qa (partsOf (L ++ [s])).length qcap (partsOf (L ++ [s])) ∧ Below w2.heap.size w2 wx ∧ (∀ x, qa = some x → w2.heap.size ≤ x.block ∧ x.off = 0))
    case first =>
      refine wp_region_eager (.plain 1 (.plain 3 (.fork 0 (.fork 2 (.sole 4 (.sole 5 (.sole 6 (.plain 7 .done)))) 4 (.sole 2 (.sole 5 (.sole 6 (.plain 7 .done))))) 4 (.sole 0 (.sole 2 (.sole 5 (.sole 6 (.plain 7 .done)))))))) (W0 := w2) (Below.refl _ _) (by kernel_rfl) (by kernel_rfl) (fun c a d v w h => by cases d <;> exact h) ?_
      have hTc := tab_drew hT2
      have hcur := (Below.refl w2.heap.size w2).drew
      have hbw : w2.heap.size ≤ w2.drew.heap.size := Nat.le_refl _
      generalize w2.drew = wd at *
      repeat (first
          | (refine' eager_skip ?_ ?_ ?_
             rotate_left 1
             · simp only [List.getElem?_toArray, List.getElem?_cons_zero, List.getElem?_cons_succ]; exact rfl
             · exact rfl
             simp only [Act.put, List.setIfInBounds_toArray, List.set_cons_zero, List.set_cons_succ])
          | (refine' eager_want ?_ ?_ (fun K hK => ?_)
             rotate_left 1
             · simp only [List.getElem?_toArray, List.getElem?_cons_zero, List.getElem?_cons_succ]; exact rfl
             · exact rfl
             first
             | (go_big_quiet_op; refine hK _ ?_; clear hK K)))
      refine' eager_want ?_ ?_ (fun K hK => ?_)
      rotate_left 1
      · simp only [List.getElem?_toArray, List.getElem?_cons_zero, List.getElem?_cons_succ]; exact rfl
      · exact rfl
      refine quiet_load_set _ rfl w.heap.size 0 s rfl hld ?_
      refine hK _ ?_
      clear hK K
      try simp only [Act.put, List.setIfInBounds_toArray, List.set_cons_zero, List.set_cons_succ]
      refine eager_fork ?_ ?_
      · refine' step_call ?_ ?_ (fun K hK => ?_)
        rotate_left 1
        · simp only [List.getElem?_toArray, List.getElem?_cons_zero, List.getElem?_cons_succ]; exact rfl
        · exact rfl
        go_simp
        refine hK _ _ ((Below.refl _ _).alloc (Nat.le_refl _) _) ?_
        have own0 : World.ownsRow (wd.alloc (.cells #[] 27)) wd.heap.size 27 4 (.slice (some ⟨wd.heap.size, 0, none⟩) 0 0) ([] : List (BitVec 256)).length (setCells []) := World.ownsRow_made wd #[] 0 (Nat.le_refl _) (by decide) rfl
        replace hcur := hcur.alloc hcur.size (.cells #[] 27)
        replace hTc := tab_alloc hTc (.cells #[] 27)
        clear hK K
        try simp only [Act.put, List.setIfInBounds_toArray, List.set_cons_zero, List.set_cons_succ]
        have hbase : wd.heap.size ≤ (wd.alloc (.cells #[] 27)).heap.size := by simp
        refine eager_fork ?_ ?_
        · refine' step_write ?_ ?_ (fun K hK => ?_)
          rotate_left 1
          · simp only [List.getElem?_toArray, List.getElem?_cons_zero, List.getElem?_cons_succ]; exact rfl
          · exact rfl
          refine wp_append_sets _ _ rfl wd.heap.size _ [] rfl own0 a n cap L rfl (hl2.below hcur rfl) (by simp; omega) hbase ?_
          intro v1 w4 own1 grow1
          rw [List.nil_append] at own1
          have hB1 := (Below.refl w2.heap.size _).grown grow1 hcur.size (fun k hk => Nat.le_trans hbw (own0.lt k hk).1)
          refine hK _ _ hB1 ?_
          replace hcur := hcur.trans hB1
          replace hTc := tab_below hTc hB1 (by have := tab_pos hT2; omega)
          clear hK K
          try simp only [Act.put, List.setIfInBounds_toArray, List.set_cons_zero, List.set_cons_succ]
          have hz4 : wd.heap.size ≤ w4.heap.size := by have := grow1.size; simp at this; omega
          replace own1 := own1.alloc (.cells #[.int .u64 (word s 0), .int .u64 (word s 1), .int .u64 (word s 2), .int .u64 (word s 3)] 27)
          refine' eager_call ?_ ?_ (fun K hK => ?_)
          rotate_left 1
          · simp only [List.getElem?_toArray, List.getElem?_cons_zero, List.getElem?_cons_succ]; exact rfl
          · exact rfl
          go_simp
          refine hK _ _ ((Below.refl _ _).alloc (Nat.le_refl _) _) ?_
          have hbt := sets_lit w4 [s] #[.int .u64 (word s 0), .int .u64 (word s 1), .int .u64 (word s 2), .int .u64 (word s 3)] rfl (by simp [maxLen])
          replace hcur := hcur.alloc hcur.size (.cells #[.int .u64 (word s 0), .int .u64 (word s 1), .int .u64 (word s 2), .int .u64 (word s 3)] 27)
          replace hTc := tab_alloc hTc (.cells #[.int .u64 (word s 0), .int .u64 (word s 1), .int .u64 (word s 2), .int .u64 (word s 3)] 27)
          clear hK K
          try simp only [Act.put, List.setIfInBounds_toArray, List.set_cons_zero, List.set_cons_succ]
          replace hbase : wd.heap.size ≤ (w4.alloc (.cells #[.int .u64 (word s 0), .int .u64 (word s 1), .int .u64 (word s 2), .int .u64 (word s 3)] 27)).heap.size := by simp; omega
          refine' eager_write ?_ ?_ (fun K hK => ?_)
          rotate_left 1
          · simp only [List.getElem?_toArray, List.getElem?_cons_zero, List.getElem?_cons_succ]; exact rfl
          · exact rfl
          refine wp_append_sets _ _ rfl wd.heap.size _ L rfl own1 _ 1 1 [s] rfl hbt (by have := Hnl.out; omega) hbase ?_
          intro v2 w8 own2 grow2
          have hB2 := (Below.refl w2.heap.size _).grown grow2 hcur.size (fun k hk => Nat.le_trans hbw (own1.lt k hk).1)
          obtain ⟨x2, c2, rfl⟩ := owns_form own2
          have hsets2 : SetsAt w8 x2 (L.length + 1) c2 (L ++ [s]) := by have := (setsAt_of_owns own2).1; rwa [List.length_append, List.length_singleton] at this
          refine hK _ _ hB2 ?_
          replace hcur := hcur.trans hB2
          replace hTc := tab_below hTc hB2 (by have := tab_pos hT2; omega)
          clear hK K
          try simp only [Act.put, List.setIfInBounds_toArray, List.set_cons_zero, List.set_cons_succ]
          refine' eager_call ?_ ?_ (fun K hK => ?_)
          rotate_left 1
          · simp only [List.getElem?_toArray, List.getElem?_cons_zero, List.getElem?_cons_succ]; exact rfl
          · exact rfl
          go_simp
          refine (blockOf_any x2 _ c2 (L ++ [s]) _ hsets2 hTc).mono ?_
          rintro e wn ⟨qa, qcap, rfl, hq, hb, hqoff⟩
          refine hK _ _ hb ?_
          have hcur0 := hcur.size
          replace hTc := tab_below hTc hb (tab_pos hTc)
          replace hcur := hcur.trans (hb.mono hcur.size)
          have hqb := fun x hx => Nat.le_trans hcur0 (hqoff x hx).1
          clear hb hK K
          try simp only [Act.put, List.setIfInBounds_toArray, List.set_cons_zero, List.set_cons_succ]
          repeat (first
              | (refine' eager_skip ?_ ?_ ?_
                 rotate_left 1
                 · simp only [List.getElem?_toArray, List.getElem?_cons_zero, List.getElem?_cons_succ]; exact rfl
                 · exact rfl
                 simp only [Act.put, List.setIfInBounds_toArray, List.set_cons_zero, List.set_cons_succ])
              | (refine' eager_want ?_ ?_ (fun K hK => ?_)
                 rotate_left 1
                 · simp only [List.getElem?_toArray, List.getElem?_cons_zero, List.getElem?_cons_succ]; exact rfl
                 · exact rfl
                 first
                 | (go_big_quiet_op; refine hK _ ?_; clear hK K)))
          refine eager_done ?_
          go_wp2_with fail
          go_meet
          exact ⟨_, _, rfl, hq, hcur, fun x hx => ⟨hqb x hx, (hqoff x hx).2⟩⟩
        · have hnn := own_ne_new own0 (Nat.le_refl _)
          replace own0 := own0.alloc (.cells #[.int .u64 (word s 0), .int .u64 (word s 1), .int .u64 (word s 2), .int .u64 (word s 3)] 27)
          refine' step_call ?_ ?_ (fun K hK => ?_)
          rotate_left 1
          · simp only [List.getElem?_toArray, List.getElem?_cons_zero, List.getElem?_cons_succ]; exact rfl
          · exact rfl
          go_simp
          refine hK _ _ ((Below.refl _ _).alloc (Nat.le_refl _) _) ?_
          have hbt := sets_lit (wd.alloc (.cells #[] 27)) [s] #[.int .u64 (word s 0), .int .u64 (word s 1), .int .u64 (word s 2), .int .u64 (word s 3)] rfl (by simp [maxLen])
          replace hcur := hcur.alloc hcur.size (.cells #[.int .u64 (word s 0), .int .u64 (word s 1), .int .u64 (word s 2), .int .u64 (word s 3)] 27)
          replace hTc := tab_alloc hTc (.cells #[.int .u64 (word s 0), .int .u64 (word s 1), .int .u64 (word s 2), .int .u64 (word s 3)] 27)
          clear hK K
          try simp only [Act.put, List.setIfInBounds_toArray, List.set_cons_zero, List.set_cons_succ]
          have ez : (wd.alloc (.cells #[] 27)).heap.size = wd.heap.size + 1 := by simp
          rw [ez] at hbt hnn
          clear ez
          replace hbase : wd.heap.size ≤ ((wd.alloc (.cells #[] 27)).alloc (.cells #[.int .u64 (word s 0), .int .u64 (word s 1), .int .u64 (word s 2), .int .u64 (word s 3)] 27)).heap.size := by simp; omega
          refine' eager_write ?_ ?_ (fun K hK => ?_)
          rotate_left 1
          · simp only [List.getElem?_toArray, List.getElem?_cons_zero, List.getElem?_cons_succ]; exact rfl
          · exact rfl
          refine wp_append_sets _ _ rfl wd.heap.size _ [] rfl own0 a n cap L rfl (hl2.below hcur rfl) (by simp; omega) hbase ?_
          intro v1 w4 own1 grow1
          rw [List.nil_append] at own1
          have hB1 := (Below.refl w2.heap.size _).grown grow1 hcur.size (fun k hk => Nat.le_trans hbw (own0.lt k hk).1)
          refine hK _ _ hB1 ?_
          replace hbt := hbt.grown grow1 (fun x hx => by cases hx; exact hnn)
          replace hbase : wd.heap.size ≤ w4.heap.size := by have := grow1.size; omega
          replace hcur := hcur.trans hB1
          replace hTc := tab_below hTc hB1 (by have := tab_pos hT2; omega)
          clear hK K
          try simp only [Act.put, List.setIfInBounds_toArray, List.set_cons_zero, List.set_cons_succ]
          refine' eager_write ?_ ?_ (fun K hK => ?_)
          rotate_left 1
          · simp only [List.getElem?_toArray, List.getElem?_cons_zero, List.getElem?_cons_succ]; exact rfl
          · exact rfl
          refine wp_append_sets _ _ rfl wd.heap.size _ L rfl own1 _ 1 1 [s] rfl hbt (by have := Hnl.out; omega) hbase ?_
          intro v2 w8 own2 grow2
          have hB2 := (Below.refl w2.heap.size _).grown grow2 hcur.size (fun k hk => Nat.le_trans hbw (own1.lt k hk).1)
          obtain ⟨x2, c2, rfl⟩ := owns_form own2
          have hsets2 : SetsAt w8 x2 (L.length + 1) c2 (L ++ [s]) := by have := (setsAt_of_owns own2).1; rwa [List.length_append, List.length_singleton] at this
          refine hK _ _ hB2 ?_
          replace hcur := hcur.trans hB2
          replace hTc := tab_below hTc hB2 (by have := tab_pos hT2; omega)
          clear hK K
          try simp only [Act.put, List.setIfInBounds_toArray, List.set_cons_zero, List.set_cons_succ]
          refine' eager_call ?_ ?_ (fun K hK => ?_)
          rotate_left 1
          · simp only [List.getElem?_toArray, List.getElem?_cons_zero, List.getElem?_cons_succ]; exact rfl
          · exact rfl
          go_simp
          refine (blockOf_any x2 _ c2 (L ++ [s]) _ hsets2 hTc).mono ?_
          rintro e wn ⟨qa, qcap, rfl, hq, hb, hqoff⟩
          refine hK _ _ hb ?_
          have hcur0 := hcur.size
          replace hTc := tab_below hTc hb (tab_pos hTc)
          replace hcur := hcur.trans (hb.mono hcur.size)
          have hqb := fun x hx => Nat.le_trans hcur0 (hqoff x hx).1
          clear hb hK K
          try simp only [Act.put, List.setIfInBounds_toArray, List.set_cons_zero, List.set_cons_succ]
          repeat (first
              | (refine' eager_skip ?_ ?_ ?_
                 rotate_left 1
                 · simp only [List.getElem?_toArray, List.getElem?_cons_zero, List.getElem?_cons_succ]; exact rfl
                 · exact rfl
                 simp only [Act.put, List.setIfInBounds_toArray, List.set_cons_zero, List.set_cons_succ])
              | (refine' eager_want ?_ ?_ (fun K hK => ?_)
                 rotate_left 1
                 · simp only [List.getElem?_toArray, List.getElem?_cons_zero, List.getElem?_cons_succ]; exact rfl
                 · exact rfl
                 first
                 | (go_big_quiet_op; refine hK _ ?_; clear hK K)))
          refine eager_done ?_
          go_wp2_with fail
          go_meet
          exact ⟨_, _, rfl, hq, hcur, fun x hx => ⟨hqb x hx, (hqoff x hx).2⟩⟩
      · refine' step_call ?_ ?_ (fun K hK => ?_)
        rotate_left 1
        · simp only [List.getElem?_toArray, List.getElem?_cons_zero, List.getElem?_cons_succ]; exact rfl
        · exact rfl
        go_simp
        refine hK _ _ ((Below.refl _ _).alloc (Nat.le_refl _) _) ?_
        have hbt := sets_lit wd [s] #[.int .u64 (word s 0), .int .u64 (word s 1), .int .u64 (word s 2), .int .u64 (word s 3)] rfl (by simp [maxLen])
        replace hcur := hcur.alloc hcur.size (.cells #[.int .u64 (word s 0), .int .u64 (word s 1), .int .u64 (word s 2), .int .u64 (word s 3)] 27)
        replace hTc := tab_alloc hTc (.cells #[.int .u64 (word s 0), .int .u64 (word s 1), .int .u64 (word s 2), .int .u64 (word s 3)] 27)
        clear hK K
        try simp only [Act.put, List.setIfInBounds_toArray, List.set_cons_zero, List.set_cons_succ]
        refine' eager_call ?_ ?_ (fun K hK => ?_)
        rotate_left 1
        · simp only [List.getElem?_toArray, List.getElem?_cons_zero, List.getElem?_cons_succ]; exact rfl
        · exact rfl
        go_simp
        refine hK _ _ ((Below.refl _ _).alloc (Nat.le_refl _) _) ?_
        have own0 : World.ownsRow ((wd.alloc (.cells #[.int .u64 (word s 0), .int .u64 (word s 1), .int .u64 (word s 2), .int .u64 (word s 3)] 27)).alloc (.cells #[] 27)) (wd.alloc (.cells #[.int .u64 (word s 0), .int .u64 (word s 1), .int .u64 (word s 2), .int .u64 (word s 3)] 27)).heap.size 27 4 (.slice (some ⟨(wd.alloc (.cells #[.int .u64 (word s 0), .int .u64 (word s 1), .int .u64 (word s 2), .int .u64 (word s 3)] 27)).heap.size, 0, none⟩) 0 0) ([] : List (BitVec 256)).length (setCells []) := World.ownsRow_made (wd.alloc (.cells #[.int .u64 (word s 0), .int .u64 (word s 1), .int .u64 (word s 2), .int .u64 (word s 3)] 27)) #[] 0 (Nat.le_refl _) (by decide) rfl
        replace hcur := hcur.alloc hcur.size (.cells #[] 27)
        replace hTc := tab_alloc hTc (.cells #[] 27)
        clear hK K
        try simp only [Act.put, List.setIfInBounds_toArray, List.set_cons_zero, List.set_cons_succ]
        have ez : (wd.alloc (.cells #[.int .u64 (word s 0), .int .u64 (word s 1), .int .u64 (word s 2), .int .u64 (word s 3)] 27)).heap.size = wd.heap.size + 1 := by simp
        rw [ez] at own0
        clear ez
        have hbase : wd.heap.size + 1 ≤ ((wd.alloc (.cells #[.int .u64 (word s 0), .int .u64 (word s 1), .int .u64 (word s 2), .int .u64 (word s 3)] 27)).alloc (.cells #[] 27)).heap.size := by simp
        replace hbw : w2.heap.size ≤ wd.heap.size + 1 := by omega
        have hnn := own_ne_low own0 (b := wd.heap.size) (by omega)
        replace hbt := setsAt_alloc hbt (.cells #[] 27)
        refine' eager_write ?_ ?_ (fun K hK => ?_)
        rotate_left 1
        · simp only [List.getElem?_toArray, List.getElem?_cons_zero, List.getElem?_cons_succ]; exact rfl
        · exact rfl
        refine wp_append_sets _ _ rfl (wd.heap.size + 1) _ [] rfl own0 a n cap L rfl (hl2.below hcur rfl) (by simp; omega) hbase ?_
        intro v1 w4 own1 grow1
        rw [List.nil_append] at own1
        have hB1 := (Below.refl w2.heap.size _).grown grow1 hcur.size (fun k hk => Nat.le_trans hbw (own0.lt k hk).1)
        refine hK _ _ hB1 ?_
        replace hbt := hbt.grown grow1 (fun x hx => by cases hx; exact hnn)
        replace hbase : wd.heap.size + 1 ≤ w4.heap.size := by have := grow1.size; omega
        replace hcur := hcur.trans hB1
        replace hTc := tab_below hTc hB1 (by have := tab_pos hT2; omega)
        clear hK K
        try simp only [Act.put, List.setIfInBounds_toArray, List.set_cons_zero, List.set_cons_succ]
        refine' eager_write ?_ ?_ (fun K hK => ?_)
        rotate_left 1
        · simp only [List.getElem?_toArray, List.getElem?_cons_zero, List.getElem?_cons_succ]; exact rfl
        · exact rfl
        refine wp_append_sets _ _ rfl (wd.heap.size + 1) _ L rfl own1 _ 1 1 [s] rfl hbt (by have := Hnl.out; omega) hbase ?_
        intro v2 w8 own2 grow2
        have hB2 := (Below.refl w2.heap.size _).grown grow2 hcur.size (fun k hk => Nat.le_trans hbw (own1.lt k hk).1)
        obtain ⟨x2, c2, rfl⟩ := owns_form own2
        have hsets2 : SetsAt w8 x2 (L.length + 1) c2 (L ++ [s]) := by have := (setsAt_of_owns own2).1; rwa [List.length_append, List.length_singleton] at this
        refine hK _ _ hB2 ?_
        replace hcur := hcur.trans hB2
        replace hTc := tab_below hTc hB2 (by have := tab_pos hT2; omega)
        clear hK K
        try simp only [Act.put, List.setIfInBounds_toArray, List.set_cons_zero, List.set_cons_succ]
        refine' eager_call ?_ ?_ (fun K hK => ?_)
        rotate_left 1
        · simp only [List.getElem?_toArray, List.getElem?_cons_zero, List.getElem?_cons_succ]; exact rfl
        · exact rfl
        go_simp
        refine (blockOf_any x2 _ c2 (L ++ [s]) _ hsets2 hTc).mono ?_
        rintro e wn ⟨qa, qcap, rfl, hq, hb, hqoff⟩
        refine hK _ _ hb ?_
        have hcur0 := hcur.size
        replace hTc := tab_below hTc hb (tab_pos hTc)
        replace hcur := hcur.trans (hb.mono hcur.size)
        have hqb := fun x hx => Nat.le_trans hcur0 (hqoff x hx).1
        clear hb hK K
        try simp only [Act.put, List.setIfInBounds_toArray, List.set_cons_zero, List.set_cons_succ]
        repeat (first
            | (refine' eager_skip ?_ ?_ ?_
               rotate_left 1
               · simp only [List.getElem?_toArray, List.getElem?_cons_zero, List.getElem?_cons_succ]; exact rfl
               · exact rfl
               simp only [Act.put, List.setIfInBounds_toArray, List.set_cons_zero, List.set_cons_succ])
            | (refine' eager_want ?_ ?_ (fun K hK => ?_)
               rotate_left 1
               · simp only [List.getElem?_toArray, List.getElem?_cons_zero, List.getElem?_cons_succ]; exact rfl
               · exact rfl
               first
               | (go_big_quiet_op; refine hK _ ?_; clear hK K)))
        refine eager_done ?_
        go_wp2_with fail
        go_meet
        exact ⟨_, _, rfl, hq, hcur, fun x hx => ⟨hqb x hx, (hqoff x hx).2⟩⟩
    case rest =>
      obtain ⟨qa, qcap, rfl, hq, hcur, hqoff⟩ := hcut
      clear hld hbox hbox1 hbox2 hne
      have hTc := tab_below hT2 hcur (tab_pos hT2)
      have hpc := hp.below hcur rfl
      have hR := blockOf_any pa _ pcap (partsOf L) wc hpc hTc
      rw [parts_parts] at hR
      have hmore := parts_more L s
      have hmeets := meets_one L s
      have hle := parts_le L
      have hle' := parts_le (L ++ [s])
      have hbwc := hbw2.trans (hcur.mono hbw2.size)
      clear hcur hp hT1 hT2 hb2 hn1 hbw2 hl2 hl1 hl hTc
      generalize partsOf (L ++ [s]) = Q at *
      generalize partsOf L = P at *
      go_wp2_with fail
      refine hR.mono ?_
      rintro e w9 ⟨ra, rcap, rfl, hr9, hb9, hroff⟩
      have hq9 := hq.below hb9 rfl
      have hp9 := hpc.below hb9 rfl
      have hbw9 := hbwc.trans (hb9.mono hbwc.size)
      have d1 : decide ((Q.length : Int) < P.length) = false := by simp; omega
      have d2 : decide (2 * (P.length : Int) < Q.length) = false := by simp; omega
      clear hR hq hpc hb9 hbwc hg1 hg2
      go_wp2_with fail
      go_loopw [8] (fun i wr => ∃ k : Nat, k ≤ Q.length ∧ i = .int .i64 k ∧ Below w9.heap.size w9 wr) (fun i _ => Q.length - (intOf i).toNat)
      case atStart => exact ⟨0, by omega, rfl, Below.refl _ _⟩
      case round =>
        obtain ⟨i, hi, rfl, hr⟩ := hrel
        by_cases hiq : i < Q.length
        · have hd : decide ((i : Int) < Q.length) = true := by simp; omega
          obtain ⟨k0, hk0, hmeet⟩ := hmeets i hiq
          have Hmeet := Lib.hid hmeet
          obtain ⟨gq, rfl, hcq, _, hgq, hcellq⟩ := sets_open hq9 hqoff (by omega)
          obtain ⟨gp, rfl, hcp, _, hgp, hcellp⟩ := sets_open hp9 hoff (by omega)
          have hA := hcellq i hiq
          obtain ⟨A, hAe⟩ : ∃ A, A = Q.getD i 0 := ⟨_, rfl⟩
          rw [← hAe] at hA
          rw [← hAe] at Hmeet
          clear hmeet hcellq hAe
          go_wp2_with fail
          go_loopw [9, 10] (fun v i wr => ∃ k : Nat, k ≤ P.length ∧ i = .int .i64 k ∧ v = .int .i64 (if k0 < k then 1 else 0 : Nat) ∧ Below w9.heap.size w9 wr) (fun _ i _ => P.length - (intOf i).toNat)
          case atStart => exact ⟨0, by omega, rfl, rfl, hr⟩
          case round =>
            clear hr
            obtain ⟨k, hk, rfl, rfl, hr⟩ := hrel
            by_cases hkp : k < P.length
            · have hd : decide ((k : Int) < P.length) = true := by simp; omega
              have hB := hcellp k hkp
              have hm := Hmeet.out k hkp
              obtain ⟨B, hBe⟩ : ∃ B, B = P.getD k 0 := ⟨_, rfl⟩
              rw [← hBe] at hB hm
              have hlen := len_any (A &&& B)
              have h256 := elems_length_le (A &&& B)
              generalize (elems (A &&& B)).length = z at *
              have hbq : gq < wr.heap.size := by have := hr.size; omega
              have hbp : gp < wr.heap.size := by have := hr.size; omega
              have hlA : ∀ w', (∃ L : Later wr, w' = L.val) → Set4 w' gq (i * 4) A := fun w' hw' => by obtain ⟨L', rfl⟩ := hw'; exact (hA.below hr hgq).below L'.ok hbq
              have hlB : ∀ w', (∃ L : Later wr, w' = L.val) → Set4 w' gp (k * 4) B := fun w' hw' => by obtain ⟨L', rfl⟩ := hw'; exact (hB.below hr hgp).below L'.ok hbp
              have hne := Later.nonempty wr
              have Hm := Lib.hid hm
              have hz : decide ((0 : Int) < z) = decide (k = k0) := by rw [decide_eq_decide, ← hm]; omega
              have hz' : decide (0 < z) = decide (k = k0) := by rw [decide_eq_decide, ← hm]
              have Hcell := Lib.hid hcellp
              clear hA hB hBe hm hcellp
              by_cases hkk : k = k0
              · have hif : ((if k0 < k then 1 else 0 : Nat)) = 0 := if_neg (by omega)
                have hif' : ((if k0 < k + 1 then 1 else 0 : Nat)) = 1 := if_pos (by omega)
                have Hif' := Lib.hid hif'
                rw [hif]
                rw [decide_eq_true hkk] at hz hz'
                clear hif hif' hkk
                go_wp2_with fail
                refine wp_region_later (W0 := wr) (Below.refl _ _) (by kernel_rfl) (by as_aux_lemma => kernel_rfl) ?_
                iterate 3 (go_big_quiet_step (fail))
                go_big_quiet_want
                refine quiet_load_set _ rfl gq (i * 4) A rfl hlA ?_
                go_big_quiet_on
                simp only [Act.put, List.setIfInBounds_toArray, List.set_cons_zero, List.set_cons_succ]
                iterate 3 (go_big_quiet_step (fail))
                go_big_quiet_want
                refine quiet_load_set _ rfl gp (k * 4) B rfl hlB ?_
                go_big_quiet_on
                simp only [Act.put, List.setIfInBounds_toArray, List.set_cons_zero, List.set_cons_succ]
                go_big_quiet_step (exact Later.calls (and_any A B _))
                go_big_quiet_step (exact Later.calls (hlen _))
                repeat (go_big_quiet_step (fail))
                refine wpQuiet_nil ?_
                intro w' hw'
                obtain ⟨L', rfl⟩ := hw'
                have h5 := hr.trans (L'.ok.mono hr.size)
                go_wp2_with fail
                go_roundw
                case rel => exact ⟨k + 1, by omega, by go_num, by rw [Hif'.out]; rfl, h5⟩
                case measure => simp [intOf]; omega
              · have hif : ((if k0 < k + 1 then 1 else 0 : Nat)) = (if k0 < k then 1 else 0 : Nat) := by
                  by_cases h : k0 < k
                  · rw [if_pos h, if_pos (by omega)]
                  · rw [if_neg h, if_neg (by omega)]
                have Hif := Lib.hid hif
                rw [decide_eq_false hkk] at hz hz'
                clear hif
                generalize (if k0 < k then 1 else 0 : Nat) = u at *
                go_wp2_with fail
                refine wp_region_later (W0 := wr) (Below.refl _ _) (by kernel_rfl) (by as_aux_lemma => kernel_rfl) ?_
                iterate 3 (go_big_quiet_step (fail))
                go_big_quiet_want
                refine quiet_load_set _ rfl gq (i * 4) A rfl hlA ?_
                go_big_quiet_on
                simp only [Act.put, List.setIfInBounds_toArray, List.set_cons_zero, List.set_cons_succ]
                iterate 3 (go_big_quiet_step (fail))
                go_big_quiet_want
                refine quiet_load_set _ rfl gp (k * 4) B rfl hlB ?_
                go_big_quiet_on
                simp only [Act.put, List.setIfInBounds_toArray, List.set_cons_zero, List.set_cons_succ]
                go_big_quiet_step (exact Later.calls (and_any A B _))
                go_big_quiet_step (exact Later.calls (hlen _))
                repeat (go_big_quiet_step (fail))
                refine wpQuiet_nil ?_
                intro w' hw'
                obtain ⟨L', rfl⟩ := hw'
                have h5 := hr.trans (L'.ok.mono hr.size)
                go_wp2_with fail
                go_roundw
                case rel => exact ⟨k + 1, by omega, by go_num, by rw [Hif.out], h5⟩
                case measure => simp [intOf]; omega
            · obtain rfl : k = P.length := by omega
              have hd : decide ((P.length : Int) < P.length) = false := by simp
              rw [if_pos hk0]
              go_wp2_with fail
              go_roundw
              case rel => exact ⟨i + 1, by omega, by go_num, hr⟩
              case measure => simp [intOf]; omega
        · obtain rfl : i = Q.length := by omega
          have hd : decide ((Q.length : Int) < Q.length) = false := by simp
          have hz9 : w9.heap.size ≤ wr.heap.size := hr.size
          have hbwr := hbw9.trans (hr.mono hbw9.size)
          have hp10 := hp9.below hr rfl
          have hr10 := hr9.below hr rfl
          clear hp9 hr9 hq9 hbw9 hr hmeets
          go_wp2_with fail
          go_loopw [11] (fun i w => ∃ k : Nat, k ≤ P.length ∧ i = .int .i64 k ∧ Below wr.heap.size wr w) (fun i _ => P.length - (intOf i).toNat)
          case atStart => exact ⟨0, by omega, rfl, Below.refl _ _⟩
          case round =>
            obtain ⟨wq, rfl⟩ : ∃ wq : World, wq = wr := ⟨_, rfl⟩
            obtain ⟨k, hk, rfl, hr⟩ := hrel
            by_cases hkp : k < P.length
            · have hd : decide ((k : Int) < P.length) = true := by simp; omega
              obtain ⟨gr, rfl, hcr, _, hgr, hcellr⟩ := sets_open hr10 hroff (by omega)
              obtain ⟨gp, rfl, hcp, _, hgp, hcellp⟩ := sets_open hp10 hoff (by omega)
              have hA := hcellr k hkp
              have hB := hcellp k hkp
              generalize P.getD k 0 = B at *
              have hbr : gr < wq.heap.size := by have := hr.size; omega
              have hbp : gp < wq.heap.size := by have := hr.size; omega
              have hlA : ∀ w', (∃ L : Later wq, w' = L.val) → Set4 w' gr (k * 4) B := fun w' hw' => by obtain ⟨L', rfl⟩ := hw'; exact (hA.below hr hgr).below L'.ok hbr
              have hlB : ∀ w', (∃ L : Later wq, w' = L.val) → Set4 w' gp (k * 4) B := fun w' hw' => by obtain ⟨L', rfl⟩ := hw'; exact (hB.below hr hgp).below L'.ok hbp
              have hne := Later.nonempty wq
              have heq := eql_same B
              clear hA hB hcellr hcellp
              go_wp2_with fail
              refine wp_region_later (W0 := wq) (Below.refl _ _) (by kernel_rfl) (by as_aux_lemma => kernel_rfl) ?_
              iterate 3 (go_big_quiet_step (fail))
              go_big_quiet_want
              refine quiet_load_set _ rfl gr (k * 4) B rfl hlA ?_
              go_big_quiet_on
              simp only [Act.put, List.setIfInBounds_toArray, List.set_cons_zero, List.set_cons_succ]
              iterate 3 (go_big_quiet_step (fail))
              go_big_quiet_want
              refine quiet_load_set _ rfl gp (k * 4) B rfl hlB ?_
              go_big_quiet_on
              simp only [Act.put, List.setIfInBounds_toArray, List.set_cons_zero, List.set_cons_succ]
              repeat (go_big_quiet_step (fail))
              refine wpQuiet_nil ?_
              intro w' hw'
              obtain ⟨L', rfl⟩ := hw'
              have h5 := hr.trans (L'.ok.mono hr.size)
              go_wp2_with fail
              go_roundw
              case rel => exact ⟨k + 1, by omega, by go_num, h5⟩
              case measure => simp [intOf]; omega
            · obtain rfl : k = P.length := by omega
              have hd : decide ((P.length : Int) < P.length) = false := by simp
              go_wp2_with fail
              go_ret
              exact ⟨rfl, hbwr.trans (hr.mono hbwr.size)⟩
end Go.Proofs.YtnhlopbpggdneaaDoor
