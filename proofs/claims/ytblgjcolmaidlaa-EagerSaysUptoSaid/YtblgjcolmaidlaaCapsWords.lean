/- Law 12's words of values: byt, left, right, group, row, many. -/
import Derived.Test.YtblgjcolmaidlaaClosed
namespace Go.Proofs.Ytblgjcolmaidlaa
namespace V
set_option maxRecDepth 100000
open Go.RowKit
theorem two_below3 (w : World) (o o' : Obj) : Below w.heap.size w ((w.alloc o).alloc o') := ((Below.refl _ _).alloc (Nat.le_refl _) _).alloc (by simp) _
/-- the call returns a value in new memory -/
def ValNew (x : Vl) (w : World) (e : Ending) (w' : World) : Prop := ∃ zs, e = .returned (.agg zs.toArray) ∧ Vl.at w' x zs ∧ Below w.heap.size w w'
set_option maxHeartbeats 4000000 in
theorem byt_walk (b : Nat) (hb : b < 256) (w : World) : Calls Try.prog 8 #[.int .u8 b] w (ValNew (.mk 2 b []) w) := by
  obtain ⟨W, hW⟩ : ∃ W, W = w.alloc (.cells #[.int .i64 0, .int .u8 0, .slice none 0 0] 25) := ⟨_, rfl⟩
  have hbW : Below w.heap.size w W := by rw [hW]; exact K.alloc_below w _
  have hz : ValIn W w.heap.size #[.int .i64 0, .int .u8 0, .slice none 0 0] := by rw [hW]; exact World.alloc_heap_new w _
  have Hz := Lib.hid hz
  have HbW := Lib.hid hbW
  clear hbW hz
  go_enter Try.func8, Try.ntmps8
  go_upto_region 1 with fail
  rw [← hW]
  clear hW
  go_wp2_with (first
    | (refine wpList_store_val rfl _ _ rfl w.heap.size _ #[.int .i64 2, .int .u8 b, .slice none 0 0] rfl rfl Hz.out rfl rfl (by simp [Value.oneCell']) ?_; intro wz hsz hoz; have Hsz := Lib.hid hsz; have Hoz := Lib.hid hoz; clear hsz hoz; simp only [Act.put])
    | fail)
  exact bodyPost_ret (results_val rfl _ _ w.heap.size _ rfl Hsz.out rfl) rfl ⟨[.int .i64 2, .int .u8 b, .slice none 0 0], rfl, at_plain rfl hb, Hoz.out.below HbW.out (Nat.le_refl _)⟩
set_option maxHeartbeats 4000000 in
theorem left_walk {x : Vl} {cs : List Value} {w : World} (hx : Vl.at w x cs) : Calls Try.prog 13 #[.agg cs.toArray] w (ValNew (.mk 4 0 [x]) w) := by
  obtain ⟨W, hW⟩ : ∃ W, W = (w.alloc (.cells cs.toArray 25)).alloc (.cells #[.int .i64 0, .int .u8 0, .slice none 0 0] 25) := ⟨_, rfl⟩
  have hbW : Below w.heap.size w W := by rw [hW]; exact two_below3 _ _ _
  have hsW : W.heap.size = w.heap.size + 2 := by rw [hW]; simp
  have h0 : ValIn W w.heap.size cs.toArray := by rw [hW]; exact (Below.heap_alloc _ _ _ (by simp)).trans (World.alloc_heap_new w _)
  have h1 : ValIn W (w.heap.size + 1) #[.int .i64 0, .int .u8 0, .slice none 0 0] := by
    have h := World.alloc_heap_new (w.alloc (.cells cs.toArray 25)) (.cells #[.int .i64 0, .int .u8 0, .slice none 0 0] 25)
    rw [World.size_alloc] at h
    rw [hW]; exact h
  have h70 := val3_in h0 (at_len hx)
  obtain ⟨W2, hW2⟩ : ∃ W2, W2 = W.alloc (.cells cs.toArray 25) := ⟨_, rfl⟩
  have hb2 : Below W.heap.size W W2 := by rw [hW2]; exact K.alloc_below W _
  have hrow : W2.heap[W.heap.size]? = some (.cells cs.toArray 25) := by rw [hW2]; exact World.alloc_heap_new W _
  have hfin : ∀ w', Only (w.heap.size + 1) W2 w' → Vl.at w' (.mk 4 0 [x]) [.int .i64 4, .int .u8 0, .slice (some ⟨W.heap.size, 0, none⟩) 1 1] := fun w' ho => by
    have hkeep : Below w.heap.size W2 w' := ho.below (Below.refl _ _) (by omega)
    have hk2 := (hbW.trans (hb2.mono hbW.size)).trans hkeep
    have hb : w'.heap[W.heap.size]? = some (.cells cs.toArray 25) := (ho.block _ (by omega)).trans hrow
    exact at_made (W := w') (b := W.heap.size) (k := 4) (z := 0) rfl (by decide) [(x, cs)] (by show 1 ≤ maxLen; decide) (by
      intro p hp
      rw [List.mem_singleton] at hp
      subst hp
      exact Vl.at_below hk2 (Nat.le_refl _) _ _ hx) (by simpa using hb)
  have Hfin := Lib.hid hfin
  have H2 := Lib.hid ((hb2.block _ (lt_of_block h1)).trans h1)
  have HbW2 := Lib.hid (hbW.trans (hb2.mono hbW.size))
  obtain ⟨k1, z1, a1, len1, cap1, rfl⟩ := at_lit hx
  clear hfin hb2 hrow h0 h1 hbW hx hsW
  go_enter Try.func13, Try.ntmps13
  go_upto_region 1 with fail
  rw [← hW]
  clear hW
  have hW2' : W.alloc (.cells #[.int .i64 k1, .int .u8 z1, .slice a1 len1 cap1] 25) = W2 := hW2.symm
  have HW2 := Lib.hid hW2'
  clear hW2 hW2'
  go_wp2_with (first
    | (refine wpList_load_val rfl _ rfl w.heap.size 0 _ rfl h70 ?_)
    | (rw [HW2.out]; refine wpList_store_val rfl _ _ rfl (w.heap.size + 1) _ #[.int .i64 4, .int .u8 0, .slice (some ⟨W.heap.size, 0, none⟩) 1 1] rfl rfl H2.out rfl rfl (by simp [Value.oneCell']) ?_; intro wz hsz hoz; have Hsz := Lib.hid hsz; have Hoz := Lib.hid hoz; clear hsz hoz; simp only [Act.put])
    | fail)
  exact bodyPost_ret (results_val rfl _ _ (w.heap.size + 1) _ rfl Hsz.out rfl) rfl ⟨[.int .i64 4, .int .u8 0, .slice (some ⟨W.heap.size, 0, none⟩) 1 1], rfl, Hfin.out _ Hoz.out, Hoz.out.below HbW2.out (by omega)⟩
set_option maxHeartbeats 4000000 in
theorem right_walk {x : Vl} {cs : List Value} {w : World} (hx : Vl.at w x cs) : Calls Try.prog 10 #[.agg cs.toArray] w (ValNew (.mk 5 0 [x]) w) := by
  obtain ⟨W, hW⟩ : ∃ W, W = (w.alloc (.cells cs.toArray 25)).alloc (.cells #[.int .i64 0, .int .u8 0, .slice none 0 0] 25) := ⟨_, rfl⟩
  have hbW : Below w.heap.size w W := by rw [hW]; exact two_below3 _ _ _
  have hsW : W.heap.size = w.heap.size + 2 := by rw [hW]; simp
  have h0 : ValIn W w.heap.size cs.toArray := by rw [hW]; exact (Below.heap_alloc _ _ _ (by simp)).trans (World.alloc_heap_new w _)
  have h1 : ValIn W (w.heap.size + 1) #[.int .i64 0, .int .u8 0, .slice none 0 0] := by
    have h := World.alloc_heap_new (w.alloc (.cells cs.toArray 25)) (.cells #[.int .i64 0, .int .u8 0, .slice none 0 0] 25)
    rw [World.size_alloc] at h
    rw [hW]; exact h
  have h70 := val3_in h0 (at_len hx)
  obtain ⟨W2, hW2⟩ : ∃ W2, W2 = W.alloc (.cells cs.toArray 25) := ⟨_, rfl⟩
  have hb2 : Below W.heap.size W W2 := by rw [hW2]; exact K.alloc_below W _
  have hrow : W2.heap[W.heap.size]? = some (.cells cs.toArray 25) := by rw [hW2]; exact World.alloc_heap_new W _
  have hfin : ∀ w', Only (w.heap.size + 1) W2 w' → Vl.at w' (.mk 5 0 [x]) [.int .i64 5, .int .u8 0, .slice (some ⟨W.heap.size, 0, none⟩) 1 1] := fun w' ho => by
    have hkeep : Below w.heap.size W2 w' := ho.below (Below.refl _ _) (by omega)
    have hk2 := (hbW.trans (hb2.mono hbW.size)).trans hkeep
    have hb : w'.heap[W.heap.size]? = some (.cells cs.toArray 25) := (ho.block _ (by omega)).trans hrow
    exact at_made (W := w') (b := W.heap.size) (k := 5) (z := 0) rfl (by decide) [(x, cs)] (by show 1 ≤ maxLen; decide) (by
      intro p hp
      rw [List.mem_singleton] at hp
      subst hp
      exact Vl.at_below hk2 (Nat.le_refl _) _ _ hx) (by simpa using hb)
  have Hfin := Lib.hid hfin
  have H2 := Lib.hid ((hb2.block _ (lt_of_block h1)).trans h1)
  have HbW2 := Lib.hid (hbW.trans (hb2.mono hbW.size))
  obtain ⟨k1, z1, a1, len1, cap1, rfl⟩ := at_lit hx
  clear hfin hb2 hrow h0 h1 hbW hx hsW
  go_enter Try.func10, Try.ntmps10
  go_upto_region 1 with fail
  rw [← hW]
  clear hW
  have hW2' : W.alloc (.cells #[.int .i64 k1, .int .u8 z1, .slice a1 len1 cap1] 25) = W2 := hW2.symm
  have HW2 := Lib.hid hW2'
  clear hW2 hW2'
  go_wp2_with (first
    | (refine wpList_load_val rfl _ rfl w.heap.size 0 _ rfl h70 ?_)
    | (rw [HW2.out]; refine wpList_store_val rfl _ _ rfl (w.heap.size + 1) _ #[.int .i64 5, .int .u8 0, .slice (some ⟨W.heap.size, 0, none⟩) 1 1] rfl rfl H2.out rfl rfl (by simp [Value.oneCell']) ?_; intro wz hsz hoz; have Hsz := Lib.hid hsz; have Hoz := Lib.hid hoz; clear hsz hoz; simp only [Act.put])
    | fail)
  exact bodyPost_ret (results_val rfl _ _ (w.heap.size + 1) _ rfl Hsz.out rfl) rfl ⟨[.int .i64 5, .int .u8 0, .slice (some ⟨W.heap.size, 0, none⟩) 1 1], rfl, Hfin.out _ Hoz.out, Hoz.out.below HbW2.out (by omega)⟩
end V
end Go.Proofs.Ytblgjcolmaidlaa
