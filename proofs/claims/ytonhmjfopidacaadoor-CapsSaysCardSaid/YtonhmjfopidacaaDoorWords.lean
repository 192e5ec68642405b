/- The laws' own words of cores and of values: ch, eps, seq, alt, star, grp, anew. -/
import Derived.Test.YtonhmjfopidacaaDoorCoreKit
import Derived.Test.YtonhmjfopidacaaDoorOpenBytes
import Derived.Test.YtonhmjfopidacaaDoorMark
import Derived.Deep.DeepCutAuto
namespace Go.Proofs.YtonhmjfopidacaaDoor
namespace K
set_option maxRecDepth 100000
open Go.RowKit
/-- the call returns a core in new memory -/
def CoreNew (x : Cr) (w : World) (e : Ending) (w' : World) : Prop := ∃ zs, e = .returned (.agg zs.toArray) ∧ Cr.at w' x zs ∧ Below w.heap.size w w'
theorem two_below2 (w : World) (o o' : Obj) : Below w.heap.size w ((w.alloc o).alloc o') := ((Below.refl _ _).alloc (Nat.le_refl _) _).alloc (by simp) _
theorem lt_of_blk {w : World} {b : Nat} {o : Obj} (h : w.heap[b]? = some o) : b < w.heap.size := (Array.getElem?_eq_some_iff.1 h).1

set_option maxHeartbeats 4000000 in
theorem ch_walk {a : Option Addr} {n cap : Nat} {l : List Nat} {w : World} (hl : BytesAt w a n cap l) : Calls Tryd.prog 12 #[.slice a n cap] w (CoreNew (.mk 2 (setOf l) 0 []) w) := by
  obtain ⟨W, hW⟩ : ∃ W, W = w.alloc (.cells #[.int .i64 0, .int .u64 0, .int .u64 0, .int .u64 0, .int .u64 0, .int .i64 0, .slice none 0 0] 28) := ⟨_, rfl⟩
  have hbW : Below w.heap.size w W := by rw [hW]; exact alloc_below w _
  have hres : CoreIn W w.heap.size #[.int .i64 0, .int .u64 0, .int .u64 0, .int .u64 0, .int .u64 0, .int .i64 0, .slice none 0 0] := by rw [hW]; exact World.alloc_heap_new w _
  have hof := of_any a n cap l W (bytes_keep hl hbW)
  have Hres := Lib.hid hres
  have HbW := Lib.hid hbW
  clear hbW hres hl
  go_enter Tryd.func12, Tryd.ntmps12
  go_upto_region 1 with fail
  rw [← hW]
  clear hW
  go_wp2_with fail
  refine hof.mono ?_
  rintro e w2 ⟨rfl, hb2⟩
  have Hres2 := Lib.hid (core_later hb2 Hres.out)
  have Hb2 := Lib.hid (HbW.out.trans (hb2.mono HbW.out.size))
  clear hb2 hof
  go_wp2_with (first
    | (refine wpList_store_core rfl _ _ rfl w.heap.size _ #[.int .i64 2, .int .u64 (word (setOf l) 0), .int .u64 (word (setOf l) 1), .int .u64 (word (setOf l) 2), .int .u64 (word (setOf l) 3), .int .i64 0, .slice none 0 0] rfl rfl Hres2.out rfl rfl (by simp [Value.oneCell']) ?_; intro wz hsz hoz; have Hsz := Lib.hid hsz; have Hoz := Lib.hid hoz; clear hsz hoz; simp only [Act.put])
    | fail)
  refine bodyPost_ret (results_core rfl _ _ w.heap.size _ rfl Hsz.out rfl) rfl ⟨[.int .i64 2, .int .u64 (word (setOf l) 0), .int .u64 (word (setOf l) 1), .int .u64 (word (setOf l) 2), .int .u64 (word (setOf l) 3), .int .i64 0, .slice none 0 0], rfl, ?_, Hoz.out.below Hb2.out (Nat.le_refl _)⟩
  exact at_plain (setOf l) rfl rfl

set_option maxHeartbeats 4000000 in
theorem seq_walk {x y : Cr} {cs ds : List Value} {w : World} (hx : Cr.at w x cs) (hy : Cr.at w y ds) : Calls Tryd.prog 19 #[.agg cs.toArray, .agg ds.toArray] w (CoreNew (.mk 3 0 0 [x, y]) w) := by
  obtain ⟨W, hW⟩ : ∃ W, W = ((w.alloc (.cells cs.toArray 28)).alloc (.cells ds.toArray 28)).alloc (.cells #[.int .i64 0, .int .u64 0, .int .u64 0, .int .u64 0, .int .u64 0, .int .i64 0, .slice none 0 0] 28) := ⟨_, rfl⟩
  have hbW : Below w.heap.size w W := by rw [hW]; exact (((Below.refl _ _).alloc (Nat.le_refl _) _).alloc (by simp) _).alloc (by simp; omega) _
  have hsW : W.heap.size = w.heap.size + 3 := by rw [hW]; simp
  have h0 : CoreIn W w.heap.size cs.toArray := by rw [hW]; exact (Below.heap_alloc _ _ _ (by simp; omega)).trans ((Below.heap_alloc _ _ _ (by simp)).trans (World.alloc_heap_new w _))
  have h1 : CoreIn W (w.heap.size + 1) ds.toArray := by
    have h := World.alloc_heap_new (w.alloc (.cells cs.toArray 28)) (.cells ds.toArray 28)
    rw [World.size_alloc] at h
    rw [hW]; exact (Below.heap_alloc _ _ _ (by simp)).trans h
  have h2 : CoreIn W (w.heap.size + 2) #[.int .i64 0, .int .u64 0, .int .u64 0, .int .u64 0, .int .u64 0, .int .i64 0, .slice none 0 0] := by
    have h := World.alloc_heap_new ((w.alloc (.cells cs.toArray 28)).alloc (.cells ds.toArray 28)) (.cells #[.int .i64 0, .int .u64 0, .int .u64 0, .int .u64 0, .int .u64 0, .int .i64 0, .slice none 0 0] 28)
    rw [World.size_alloc, World.size_alloc] at h
    rw [hW]; exact h
  have h70 := core7_in h0 (at_len hx)
  have h71 := core7_in h1 (at_len hy)
  -- the list
  obtain ⟨W2, hW2⟩ : ∃ W2, W2 = W.alloc (.cells (cs ++ ds).toArray 28) := ⟨_, rfl⟩
  have hb2 : Below W.heap.size W W2 := by rw [hW2]; exact alloc_below W _
  have hrow : W2.heap[W.heap.size]? = some (.cells (cs ++ ds).toArray 28) := by rw [hW2]; exact World.alloc_heap_new W _
  have hax := Cr.at_below (hbW.trans (hb2.mono hbW.size)) (Nat.le_refl _) _ _ hx
  have hay := Cr.at_below (hbW.trans (hb2.mono hbW.size)) (Nat.le_refl _) _ _ hy
  have hfin : ∀ w', Only (w.heap.size + 2) W2 w' → Cr.at w' (.mk 3 0 0 [x, y]) [.int .i64 3, .int .u64 0, .int .u64 0, .int .u64 0, .int .u64 0, .int .i64 0, .slice (some ⟨W.heap.size, 0, none⟩) 2 2] := fun w' ho => by
    have hkeep : Below w.heap.size W2 w' := ho.below (Below.refl _ _) (by omega)
    have hk2 := (hbW.trans (hb2.mono hbW.size)).trans hkeep
    have hb : w'.heap[W.heap.size]? = some (.cells (cs ++ ds).toArray 28) := (ho.block _ (by omega)).trans hrow
    exact at_made (W := w') (b := W.heap.size) (k := 3) (n := 0) rfl rfl [(x, cs), (y, ds)] (by show 2 ≤ maxLen; decide) (by
      intro p hp
      simp only [List.mem_cons, List.not_mem_nil, or_false] at hp
      rcases hp with rfl | rfl
      · exact Cr.at_below hk2 (Nat.le_refl _) _ _ hx
      · exact Cr.at_below hk2 (Nat.le_refl _) _ _ hy) (by simpa using hb)
  have Hfin := Lib.hid hfin
  have H2 := Lib.hid ((hb2.block _ (lt_of_block h2)).trans h2)
  have HbW2 := Lib.hid (hbW.trans (hb2.mono hbW.size))
  obtain ⟨k1, s1, n1, a1, len1, cap1, rfl⟩ := at_lit hx
  obtain ⟨k2, s2, n2, a2, len2, cap2, rfl⟩ := at_lit hy
  clear hfin hb2 hrow hax hay h0 h1 h2 hbW hx hy hsW
  go_enter Tryd.func19, Tryd.ntmps19
  go_upto_region 1 with fail
  rw [← hW]
  clear hW
  rw [show w.heap.size + 1 + 1 = w.heap.size + 2 from rfl]
  have hW2' : W.alloc (.cells #[.int .i64 k1, .int .u64 (word s1 0), .int .u64 (word s1 1), .int .u64 (word s1 2), .int .u64 (word s1 3), .int .i64 n1, .slice a1 len1 cap1, .int .i64 k2, .int .u64 (word s2 0), .int .u64 (word s2 1), .int .u64 (word s2 2), .int .u64 (word s2 3), .int .i64 n2, .slice a2 len2 cap2] 28) = W2 := hW2.symm
  have HW2 := Lib.hid hW2'
  clear hW2 hW2'
  go_wp2_with (first
    | (refine wpList_load_core rfl _ rfl w.heap.size 0 _ rfl h70 ?_)
    | (refine wpList_load_core rfl _ rfl (w.heap.size + 1) 0 _ rfl h71 ?_)
    | (rw [HW2.out]; refine wpList_store_core rfl _ _ rfl (w.heap.size + 2) _ #[.int .i64 3, .int .u64 0, .int .u64 0, .int .u64 0, .int .u64 0, .int .i64 0, .slice (some ⟨W.heap.size, 0, none⟩) 2 2] rfl rfl H2.out rfl rfl (by simp [Value.oneCell']) ?_; intro wz hsz hoz; have Hsz := Lib.hid hsz; have Hoz := Lib.hid hoz; clear hsz hoz; simp only [Act.put])
    | fail)
  exact bodyPost_ret (results_core rfl _ _ (w.heap.size + 2) _ rfl Hsz.out rfl) rfl ⟨[.int .i64 3, .int .u64 0, .int .u64 0, .int .u64 0, .int .u64 0, .int .i64 0, .slice (some ⟨W.heap.size, 0, none⟩) 2 2], rfl, Hfin.out _ Hoz.out, Hoz.out.below HbW2.out (by omega)⟩

set_option maxHeartbeats 4000000 in
theorem alt_walk {x y : Cr} {cs ds : List Value} {w : World} (hx : Cr.at w x cs) (hy : Cr.at w y ds) : Calls Tryd.prog 10 #[.agg cs.toArray, .agg ds.toArray] w (CoreNew (.mk 4 0 0 [x, y]) w) := by
  obtain ⟨W, hW⟩ : ∃ W, W = ((w.alloc (.cells cs.toArray 28)).alloc (.cells ds.toArray 28)).alloc (.cells #[.int .i64 0, .int .u64 0, .int .u64 0, .int .u64 0, .int .u64 0, .int .i64 0, .slice none 0 0] 28) := ⟨_, rfl⟩
  have hbW : Below w.heap.size w W := by rw [hW]; exact (((Below.refl _ _).alloc (Nat.le_refl _) _).alloc (by simp) _).alloc (by simp; omega) _
  have hsW : W.heap.size = w.heap.size + 3 := by rw [hW]; simp
  have h0 : CoreIn W w.heap.size cs.toArray := by rw [hW]; exact (Below.heap_alloc _ _ _ (by simp; omega)).trans ((Below.heap_alloc _ _ _ (by simp)).trans (World.alloc_heap_new w _))
  have h1 : CoreIn W (w.heap.size + 1) ds.toArray := by
    have h := World.alloc_heap_new (w.alloc (.cells cs.toArray 28)) (.cells ds.toArray 28)
    rw [World.size_alloc] at h
    rw [hW]; exact (Below.heap_alloc _ _ _ (by simp)).trans h
  have h2 : CoreIn W (w.heap.size + 2) #[.int .i64 0, .int .u64 0, .int .u64 0, .int .u64 0, .int .u64 0, .int .i64 0, .slice none 0 0] := by
    have h := World.alloc_heap_new ((w.alloc (.cells cs.toArray 28)).alloc (.cells ds.toArray 28)) (.cells #[.int .i64 0, .int .u64 0, .int .u64 0, .int .u64 0, .int .u64 0, .int .i64 0, .slice none 0 0] 28)
    rw [World.size_alloc, World.size_alloc] at h
    rw [hW]; exact h
  have h70 := core7_in h0 (at_len hx)
  have h71 := core7_in h1 (at_len hy)
  -- the list
  obtain ⟨W2, hW2⟩ : ∃ W2, W2 = W.alloc (.cells (cs ++ ds).toArray 28) := ⟨_, rfl⟩
  have hb2 : Below W.heap.size W W2 := by rw [hW2]; exact alloc_below W _
  have hrow : W2.heap[W.heap.size]? = some (.cells (cs ++ ds).toArray 28) := by rw [hW2]; exact World.alloc_heap_new W _
  have hax := Cr.at_below (hbW.trans (hb2.mono hbW.size)) (Nat.le_refl _) _ _ hx
  have hay := Cr.at_below (hbW.trans (hb2.mono hbW.size)) (Nat.le_refl _) _ _ hy
  have hfin : ∀ w', Only (w.heap.size + 2) W2 w' → Cr.at w' (.mk 4 0 0 [x, y]) [.int .i64 4, .int .u64 0, .int .u64 0, .int .u64 0, .int .u64 0, .int .i64 0, .slice (some ⟨W.heap.size, 0, none⟩) 2 2] := fun w' ho => by
    have hkeep : Below w.heap.size W2 w' := ho.below (Below.refl _ _) (by omega)
    have hk2 := (hbW.trans (hb2.mono hbW.size)).trans hkeep
    have hb : w'.heap[W.heap.size]? = some (.cells (cs ++ ds).toArray 28) := (ho.block _ (by omega)).trans hrow
    exact at_made (W := w') (b := W.heap.size) (k := 4) (n := 0) rfl rfl [(x, cs), (y, ds)] (by show 2 ≤ maxLen; decide) (by
      intro p hp
      simp only [List.mem_cons, List.not_mem_nil, or_false] at hp
      rcases hp with rfl | rfl
      · exact Cr.at_below hk2 (Nat.le_refl _) _ _ hx
      · exact Cr.at_below hk2 (Nat.le_refl _) _ _ hy) (by simpa using hb)
  have Hfin := Lib.hid hfin
  have H2 := Lib.hid ((hb2.block _ (lt_of_block h2)).trans h2)
  have HbW2 := Lib.hid (hbW.trans (hb2.mono hbW.size))
  obtain ⟨k1, s1, n1, a1, len1, cap1, rfl⟩ := at_lit hx
  obtain ⟨k2, s2, n2, a2, len2, cap2, rfl⟩ := at_lit hy
  clear hfin hb2 hrow hax hay h0 h1 h2 hbW hx hy hsW
  go_enter Tryd.func10, Tryd.ntmps10
  go_upto_region 1 with fail
  rw [← hW]
  clear hW
  rw [show w.heap.size + 1 + 1 = w.heap.size + 2 from rfl]
  have hW2' : W.alloc (.cells #[.int .i64 k1, .int .u64 (word s1 0), .int .u64 (word s1 1), .int .u64 (word s1 2), .int .u64 (word s1 3), .int .i64 n1, .slice a1 len1 cap1, .int .i64 k2, .int .u64 (word s2 0), .int .u64 (word s2 1), .int .u64 (word s2 2), .int .u64 (word s2 3), .int .i64 n2, .slice a2 len2 cap2] 28) = W2 := hW2.symm
  have HW2 := Lib.hid hW2'
  clear hW2 hW2'
  go_wp2_with (first
    | (refine wpList_load_core rfl _ rfl w.heap.size 0 _ rfl h70 ?_)
    | (refine wpList_load_core rfl _ rfl (w.heap.size + 1) 0 _ rfl h71 ?_)
    | (rw [HW2.out]; refine wpList_store_core rfl _ _ rfl (w.heap.size + 2) _ #[.int .i64 4, .int .u64 0, .int .u64 0, .int .u64 0, .int .u64 0, .int .i64 0, .slice (some ⟨W.heap.size, 0, none⟩) 2 2] rfl rfl H2.out rfl rfl (by simp [Value.oneCell']) ?_; intro wz hsz hoz; have Hsz := Lib.hid hsz; have Hoz := Lib.hid hoz; clear hsz hoz; simp only [Act.put])
    | fail)
  exact bodyPost_ret (results_core rfl _ _ (w.heap.size + 2) _ rfl Hsz.out rfl) rfl ⟨[.int .i64 4, .int .u64 0, .int .u64 0, .int .u64 0, .int .u64 0, .int .i64 0, .slice (some ⟨W.heap.size, 0, none⟩) 2 2], rfl, Hfin.out _ Hoz.out, Hoz.out.below HbW2.out (by omega)⟩

set_option maxHeartbeats 4000000 in
theorem star_walk {x : Cr} {cs : List Value} {w : World} (hx : Cr.at w x cs) : Calls Tryd.prog 9 #[.agg cs.toArray] w (CoreNew (.mk 5 0 0 [x]) w) := by
  obtain ⟨W, hW⟩ : ∃ W, W = (w.alloc (.cells cs.toArray 28)).alloc (.cells #[.int .i64 0, .int .u64 0, .int .u64 0, .int .u64 0, .int .u64 0, .int .i64 0, .slice none 0 0] 28) := ⟨_, rfl⟩
  have hbW : Below w.heap.size w W := by rw [hW]; exact two_below2 _ _ _
  have hsW : W.heap.size = w.heap.size + 2 := by rw [hW]; simp
  have h0 : CoreIn W w.heap.size cs.toArray := by rw [hW]; exact (Below.heap_alloc _ _ _ (by simp)).trans (World.alloc_heap_new w _)
  have h1 : CoreIn W (w.heap.size + 1) #[.int .i64 0, .int .u64 0, .int .u64 0, .int .u64 0, .int .u64 0, .int .i64 0, .slice none 0 0] := by
    have h := World.alloc_heap_new (w.alloc (.cells cs.toArray 28)) (.cells #[.int .i64 0, .int .u64 0, .int .u64 0, .int .u64 0, .int .u64 0, .int .i64 0, .slice none 0 0] 28)
    rw [World.size_alloc] at h
    rw [hW]; exact h
  have h70 := core7_in h0 (at_len hx)
  obtain ⟨W2, hW2⟩ : ∃ W2, W2 = W.alloc (.cells cs.toArray 28) := ⟨_, rfl⟩
  have hb2 : Below W.heap.size W W2 := by rw [hW2]; exact alloc_below W _
  have hrow : W2.heap[W.heap.size]? = some (.cells cs.toArray 28) := by rw [hW2]; exact World.alloc_heap_new W _
  have hfin : ∀ w', Only (w.heap.size + 1) W2 w' → Cr.at w' (.mk 5 0 0 [x]) [.int .i64 5, .int .u64 0, .int .u64 0, .int .u64 0, .int .u64 0, .int .i64 0, .slice (some ⟨W.heap.size, 0, none⟩) 1 1] := fun w' ho => by
    have hkeep : Below w.heap.size W2 w' := ho.below (Below.refl _ _) (by omega)
    have hk2 := (hbW.trans (hb2.mono hbW.size)).trans hkeep
    have hb : w'.heap[W.heap.size]? = some (.cells cs.toArray 28) := (ho.block _ (by omega)).trans hrow
    exact at_made (W := w') (b := W.heap.size) (k := 5) (n := 0) rfl rfl [(x, cs)] (by show 1 ≤ maxLen; decide) (by
      intro p hp
      rw [List.mem_singleton] at hp
      subst hp
      exact Cr.at_below hk2 (Nat.le_refl _) _ _ hx) (by simpa using hb)
  have Hfin := Lib.hid hfin
  have H2 := Lib.hid ((hb2.block _ (lt_of_block h1)).trans h1)
  have HbW2 := Lib.hid (hbW.trans (hb2.mono hbW.size))
  obtain ⟨k1, s1, n1, a1, len1, cap1, rfl⟩ := at_lit hx
  clear hfin hb2 hrow h0 h1 hbW hx hsW
  go_enter Tryd.func9, Tryd.ntmps9
  go_upto_region 1 with fail
  rw [← hW]
  clear hW
  have hW2' : W.alloc (.cells #[.int .i64 k1, .int .u64 (word s1 0), .int .u64 (word s1 1), .int .u64 (word s1 2), .int .u64 (word s1 3), .int .i64 n1, .slice a1 len1 cap1] 28) = W2 := hW2.symm
  have HW2 := Lib.hid hW2'
  clear hW2 hW2'
  go_wp2_with (first
    | (refine wpList_load_core rfl _ rfl w.heap.size 0 _ rfl h70 ?_)
    | (rw [HW2.out]; refine wpList_store_core rfl _ _ rfl (w.heap.size + 1) _ #[.int .i64 5, .int .u64 0, .int .u64 0, .int .u64 0, .int .u64 0, .int .i64 0, .slice (some ⟨W.heap.size, 0, none⟩) 1 1] rfl rfl H2.out rfl rfl (by simp [Value.oneCell']) ?_; intro wz hsz hoz; have Hsz := Lib.hid hsz; have Hoz := Lib.hid hoz; clear hsz hoz; simp only [Act.put])
    | fail)
  exact bodyPost_ret (results_core rfl _ _ (w.heap.size + 1) _ rfl Hsz.out rfl) rfl ⟨[.int .i64 5, .int .u64 0, .int .u64 0, .int .u64 0, .int .u64 0, .int .i64 0, .slice (some ⟨W.heap.size, 0, none⟩) 1 1], rfl, Hfin.out _ Hoz.out, Hoz.out.below HbW2.out (by omega)⟩

set_option maxHeartbeats 4000000 in
theorem anew_walk {x : Cr} {cs : List Value} {w : World} (hx : Cr.at w x cs) : Calls Tryd.prog 20 #[.agg cs.toArray] w (CoreNew (.mk 7 0 0 [x]) w) := by
  obtain ⟨W, hW⟩ : ∃ W, W = (w.alloc (.cells cs.toArray 28)).alloc (.cells #[.int .i64 0, .int .u64 0, .int .u64 0, .int .u64 0, .int .u64 0, .int .i64 0, .slice none 0 0] 28) := ⟨_, rfl⟩
  have hbW : Below w.heap.size w W := by rw [hW]; exact two_below2 _ _ _
  have hsW : W.heap.size = w.heap.size + 2 := by rw [hW]; simp
  have h0 : CoreIn W w.heap.size cs.toArray := by rw [hW]; exact (Below.heap_alloc _ _ _ (by simp)).trans (World.alloc_heap_new w _)
  have h1 : CoreIn W (w.heap.size + 1) #[.int .i64 0, .int .u64 0, .int .u64 0, .int .u64 0, .int .u64 0, .int .i64 0, .slice none 0 0] := by
    have h := World.alloc_heap_new (w.alloc (.cells cs.toArray 28)) (.cells #[.int .i64 0, .int .u64 0, .int .u64 0, .int .u64 0, .int .u64 0, .int .i64 0, .slice none 0 0] 28)
    rw [World.size_alloc] at h
    rw [hW]; exact h
  have h70 := core7_in h0 (at_len hx)
  obtain ⟨W2, hW2⟩ : ∃ W2, W2 = W.alloc (.cells cs.toArray 28) := ⟨_, rfl⟩
  have hb2 : Below W.heap.size W W2 := by rw [hW2]; exact alloc_below W _
  have hrow : W2.heap[W.heap.size]? = some (.cells cs.toArray 28) := by rw [hW2]; exact World.alloc_heap_new W _
  have hfin : ∀ w', Only (w.heap.size + 1) W2 w' → Cr.at w' (.mk 7 0 0 [x]) [.int .i64 7, .int .u64 0, .int .u64 0, .int .u64 0, .int .u64 0, .int .i64 0, .slice (some ⟨W.heap.size, 0, none⟩) 1 1] := fun w' ho => by
    have hkeep : Below w.heap.size W2 w' := ho.below (Below.refl _ _) (by omega)
    have hk2 := (hbW.trans (hb2.mono hbW.size)).trans hkeep
    have hb : w'.heap[W.heap.size]? = some (.cells cs.toArray 28) := (ho.block _ (by omega)).trans hrow
    exact at_made (W := w') (b := W.heap.size) (k := 7) (n := 0) rfl rfl [(x, cs)] (by show 1 ≤ maxLen; decide) (by
      intro p hp
      rw [List.mem_singleton] at hp
      subst hp
      exact Cr.at_below hk2 (Nat.le_refl _) _ _ hx) (by simpa using hb)
  have Hfin := Lib.hid hfin
  have H2 := Lib.hid ((hb2.block _ (lt_of_block h1)).trans h1)
  have HbW2 := Lib.hid (hbW.trans (hb2.mono hbW.size))
  obtain ⟨k1, s1, n1, a1, len1, cap1, rfl⟩ := at_lit hx
  clear hfin hb2 hrow h0 h1 hbW hx hsW
  go_enter Tryd.func20, Tryd.ntmps20
  go_upto_region 1 with fail
  rw [← hW]
  clear hW
  have hW2' : W.alloc (.cells #[.int .i64 k1, .int .u64 (word s1 0), .int .u64 (word s1 1), .int .u64 (word s1 2), .int .u64 (word s1 3), .int .i64 n1, .slice a1 len1 cap1] 28) = W2 := hW2.symm
  have HW2 := Lib.hid hW2'
  clear hW2 hW2'
  go_wp2_with (first
    | (refine wpList_load_core rfl _ rfl w.heap.size 0 _ rfl h70 ?_)
    | (rw [HW2.out]; refine wpList_store_core rfl _ _ rfl (w.heap.size + 1) _ #[.int .i64 7, .int .u64 0, .int .u64 0, .int .u64 0, .int .u64 0, .int .i64 0, .slice (some ⟨W.heap.size, 0, none⟩) 1 1] rfl rfl H2.out rfl rfl (by simp [Value.oneCell']) ?_; intro wz hsz hoz; have Hsz := Lib.hid hsz; have Hoz := Lib.hid hoz; clear hsz hoz; simp only [Act.put])
    | fail)
  exact bodyPost_ret (results_core rfl _ _ (w.heap.size + 1) _ rfl Hsz.out rfl) rfl ⟨[.int .i64 7, .int .u64 0, .int .u64 0, .int .u64 0, .int .u64 0, .int .i64 0, .slice (some ⟨W.heap.size, 0, none⟩) 1 1], rfl, Hfin.out _ Hoz.out, Hoz.out.below HbW2.out (by omega)⟩

set_option maxHeartbeats 4000000 in
theorem grp_walk (n : Int) (hfn : fits64 n) {x : Cr} {cs : List Value} {w : World} (hx : Cr.at w x cs) : Calls Tryd.prog 11 #[.int .i64 n, .agg cs.toArray] w (CoreNew (.mk 6 0 n [x]) w) := by
  obtain ⟨W, hW⟩ : ∃ W, W = (w.alloc (.cells cs.toArray 28)).alloc (.cells #[.int .i64 0, .int .u64 0, .int .u64 0, .int .u64 0, .int .u64 0, .int .i64 0, .slice none 0 0] 28) := ⟨_, rfl⟩
  have hbW : Below w.heap.size w W := by rw [hW]; exact two_below2 _ _ _
  have hsW : W.heap.size = w.heap.size + 2 := by rw [hW]; simp
  have h0 : CoreIn W w.heap.size cs.toArray := by rw [hW]; exact (Below.heap_alloc _ _ _ (by simp)).trans (World.alloc_heap_new w _)
  have h1 : CoreIn W (w.heap.size + 1) #[.int .i64 0, .int .u64 0, .int .u64 0, .int .u64 0, .int .u64 0, .int .i64 0, .slice none 0 0] := by
    have h := World.alloc_heap_new (w.alloc (.cells cs.toArray 28)) (.cells #[.int .i64 0, .int .u64 0, .int .u64 0, .int .u64 0, .int .u64 0, .int .i64 0, .slice none 0 0] 28)
    rw [World.size_alloc] at h
    rw [hW]; exact h
  have h70 := core7_in h0 (at_len hx)
  obtain ⟨W2, hW2⟩ : ∃ W2, W2 = W.alloc (.cells cs.toArray 28) := ⟨_, rfl⟩
  have hb2 : Below W.heap.size W W2 := by rw [hW2]; exact alloc_below W _
  have hrow : W2.heap[W.heap.size]? = some (.cells cs.toArray 28) := by rw [hW2]; exact World.alloc_heap_new W _
  have hfin : ∀ w', Only (w.heap.size + 1) W2 w' → Cr.at w' (.mk 6 0 n [x]) [.int .i64 6, .int .u64 0, .int .u64 0, .int .u64 0, .int .u64 0, .int .i64 n, .slice (some ⟨W.heap.size, 0, none⟩) 1 1] := fun w' ho => by
    have hkeep : Below w.heap.size W2 w' := ho.below (Below.refl _ _) (by omega)
    have hk2 := (hbW.trans (hb2.mono hbW.size)).trans hkeep
    have hb : w'.heap[W.heap.size]? = some (.cells cs.toArray 28) := (ho.block _ (by omega)).trans hrow
    exact at_made (W := w') (b := W.heap.size) (k := 6) (n := n) rfl hfn [(x, cs)] (by show 1 ≤ maxLen; decide) (by
      intro p hp
      rw [List.mem_singleton] at hp
      subst hp
      exact Cr.at_below hk2 (Nat.le_refl _) _ _ hx) (by simpa using hb)
  have Hfin := Lib.hid hfin
  have H2 := Lib.hid ((hb2.block _ (lt_of_block h1)).trans h1)
  have HbW2 := Lib.hid (hbW.trans (hb2.mono hbW.size))
  obtain ⟨k1, s1, n1, a1, len1, cap1, rfl⟩ := at_lit hx
  clear hfin hb2 hrow h0 h1 hbW hx hsW
  go_enter Tryd.func11, Tryd.ntmps11
  go_upto_region 1 with fail
  rw [← hW]
  clear hW
  have hW2' : W.alloc (.cells #[.int .i64 k1, .int .u64 (word s1 0), .int .u64 (word s1 1), .int .u64 (word s1 2), .int .u64 (word s1 3), .int .i64 n1, .slice a1 len1 cap1] 28) = W2 := hW2.symm
  have HW2 := Lib.hid hW2'
  clear hW2 hW2'
  go_wp2_with (first
    | (refine wpList_load_core rfl _ rfl w.heap.size 0 _ rfl h70 ?_)
    | (rw [HW2.out]; refine wpList_store_core rfl _ _ rfl (w.heap.size + 1) _ #[.int .i64 6, .int .u64 0, .int .u64 0, .int .u64 0, .int .u64 0, .int .i64 n, .slice (some ⟨W.heap.size, 0, none⟩) 1 1] rfl rfl H2.out rfl rfl (by simp [Value.oneCell']) ?_; intro wz hsz hoz; have Hsz := Lib.hid hsz; have Hoz := Lib.hid hoz; clear hsz hoz; simp only [Act.put])
    | fail)
  exact bodyPost_ret (results_core rfl _ _ (w.heap.size + 1) _ rfl Hsz.out rfl) rfl ⟨[.int .i64 6, .int .u64 0, .int .u64 0, .int .u64 0, .int .u64 0, .int .i64 n, .slice (some ⟨W.heap.size, 0, none⟩) 1 1], rfl, Hfin.out _ Hoz.out, Hoz.out.below HbW2.out (by omega)⟩


theorem eps_walk (w : World) : Calls Tryd.prog 22 #[] w (CoreNew (.mk 1 0 0 []) w) := by
  go_enter Tryd.func22, Tryd.ntmps22
  obtain ⟨W, hW⟩ : ∃ W, W = w.alloc (.cells #[.int .i64 0, .int .u64 0, .int .u64 0, .int .u64 0, .int .u64 0, .int .i64 0, .slice none 0 0] 28) := ⟨_, rfl⟩
  have hbW : Below w.heap.size w W := by rw [hW]; exact alloc_below w _
  have hres : CoreIn W w.heap.size #[.int .i64 0, .int .u64 0, .int .u64 0, .int .u64 0, .int .u64 0, .int .i64 0, .slice none 0 0] := by rw [hW]; exact World.alloc_heap_new w _
  have Hres := Lib.hid hres
  have HbW := Lib.hid hbW
  clear hbW hres
  go_upto_region 1 with fail
  rw [← hW]
  clear hW
  go_wp2_with (first
    | (refine wpList_store_core rfl _ _ rfl w.heap.size _ #[.int .i64 1, .int .u64 0, .int .u64 0, .int .u64 0, .int .u64 0, .int .i64 0, .slice none 0 0] rfl rfl Hres.out rfl rfl (by simp [Value.oneCell']) ?_; intro wz hsz hoz; have Hsz := Lib.hid hsz; have Hoz := Lib.hid hoz; clear hsz hoz; simp only [Act.put])
    | fail)
  refine bodyPost_ret (results_core rfl _ _ w.heap.size _ rfl Hsz.out rfl) rfl ⟨[.int .i64 1, .int .u64 0, .int .u64 0, .int .u64 0, .int .u64 0, .int .i64 0, .slice none 0 0], rfl, ?_, Hoz.out.below HbW.out (Nat.le_refl _)⟩
  have h := at_plain (W := wz) (k := 1) (n := 0) 0 rfl rfl
  rw [show word 0 0 = 0 from word_zero 0, show word 0 1 = 0 from word_zero 1, show word 0 2 = 0 from word_zero 2, show word 0 3 = 0 from word_zero 3] at h
  exact h
end K
end Go.Proofs.YtonhmjfopidacaaDoor
