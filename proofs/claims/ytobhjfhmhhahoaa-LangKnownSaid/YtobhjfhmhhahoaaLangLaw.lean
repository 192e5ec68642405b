/- What the laws of layer 9 lean on: their own ch, seq, alt, star, ints; parts of strings. -/
import Derived.Test.YtobhjfhmhhahoaaLangTraits
import Derived.Test.YtobhjfhmhhahoaaOpenBytes
import Derived.Test.YtobhjfhmhhahoaaMark
namespace Go.Proofs.Ytobhjfhmhhahoaa
namespace K
set_option maxRecDepth 100000
open Go.RowKit
/-- the call returns a core in new memory -/
def CoreNew (x : Cr) (w : World) (e : Ending) (w' : World) : Prop := ∃ zs, e = .returned (.agg zs.toArray) ∧ Cr.at w' x zs ∧ Below w.heap.size w w'
theorem results_coreN {fn : Func} {p : Tmp} (h : fn.results = #[.cell p 28]) (tmps : Array Value) (w : World) (b : Nat) (cs : Array Value) (hp : tmps.getD p undef = .pointer (some ⟨b, 0, none⟩)) (hs : CoreIn w b cs) (hc : cs.size = 7) :
    (results fn tmps).run Try.prog w = .ok (.agg cs) w := results_core h tmps w b cs hp hs hc
/-! parts of strings -/
theorem elemU8 : Try.prog.elem 35 = 5 := by kernel_rfl
theorem underU8 : Try.prog.underlying 35 = some (.slice (Try.prog.elem 35)) := by rw [elemU8]; exact Try.underlying35
theorem size_u8 (w : World) : (sizeOf (Try.prog.elem 35)).run Try.prog w = .ok 1 w := by
  rw [elemU8]
  obtain ⟨i0, hi, hz0, hz1, hz2⟩ := info_parts info_u8
  simp [sizeOf, typeInfo, hi, hz1]
theorem add_one (b off j : Nat) : (⟨b, off, none⟩ : Addr).add j = ⟨b, off + j, none⟩ := add_at b off j
theorem run_take {a : Option Addr} {n cap : Nat} {l : List Nat} {i : Nat} (hi : i ≤ n) {w0 : World} (h0 : BytesAt w0 a n cap l) : ∃ a', (∀ w, (Instr.sliceAt 35 (.slice a n cap) none (some (.int .i64 (i : Int))) none).run Try.prog w = .ok (.slice a' i cap) w) ∧ ∀ w, BytesAt w a n cap l → BytesAt w a' i cap (l.take i) := by
  have hic : i ≤ cap := by
    rcases h0.2.2.2 with h | ⟨_, _, _, h, _⟩ <;> omega
  refine ⟨if cap = 0 then a else a.map (·.add (0 * 1)), fun w => ?_, fun w h => ?_⟩
  · rw [run_sliceAt_slice _ _ _ _ _ _ underU8, run_slice_h _ _ _ _ _ underU8 _ _ (by omega) (by omega), size_u8]
    simp [Result.andThen, sliced]
  · obtain ⟨h1, h2, h3, h4⟩ := h
    refine ⟨by simp; omega, fun x hx => h2 x (List.mem_of_mem_take hx), by omega, ?_⟩
    rcases h4 with h4 | ⟨b, off, rfl, h5, h6, h7⟩
    · exact .inl (by omega)
    · by_cases hz : i = 0
      · exact .inl hz
      refine .inr ⟨b, off, ?_, hic, h6, fun j hj => ?_⟩
      · rw [if_neg (by omega)]
        simp [add_one]
      · rw [h7 j (by omega), List.getD_eq_getElem?_getD, List.getD_eq_getElem?_getD, List.getElem?_take, if_pos hj]
theorem run_drop {a : Option Addr} {n cap : Nat} {l : List Nat} {i : Nat} (hi : i ≤ n) : ∃ a', (∀ w, (Instr.sliceAt 35 (.slice a n cap) (some (.int .i64 (i : Int))) none none).run Try.prog w = .ok (.slice a' (n - i) (cap - i)) w) ∧ ∀ w, BytesAt w a n cap l → BytesAt w a' (n - i) (cap - i) (l.drop i) := by
  refine ⟨if cap = i then a else a.map (·.add (i * 1)), fun w => ?_, fun w h => ?_⟩
  · rw [run_sliceAt_slice _ _ _ _ _ _ underU8, run_slice_l _ _ _ _ _ underU8 _ _ (by omega) (by omega), size_u8]
    simp [Result.andThen, sliced]
  · obtain ⟨h1, h2, h3, h4⟩ := h
    refine ⟨by simp; omega, fun x hx => h2 x (List.mem_of_mem_drop hx), by omega, ?_⟩
    by_cases hz : n - i = 0
    · exact .inl hz
    rcases h4 with h4 | ⟨b, off, rfl, h5, h6, h7⟩
    · omega
    · refine .inr ⟨b, off + i, ?_, by omega, h6, fun j hj => ?_⟩
      · rw [if_neg (by omega)]
        simp [add_one]
      · rw [Nat.add_assoc, h7 (i + j) (by omega), List.getD_eq_getElem?_getD, List.getD_eq_getElem?_getD, List.getElem?_drop]
theorem quiet_slice_hi {o : Oper} {a : Act} {C : World → Prop} {K : Act → Prop} (x y : Operand) (ho : o.op = .slice 35 x none (some y) none) (v u r : Value) (hx : a.eval x = v) (hy : a.eval y = u)
    (h : ∀ w, (Instr.sliceAt 35 v none (some u) none).run Try.prog w = .ok r w) (hK : K (a.put o.dst r)) : o.quiet Try.prog a C K :=
  ⟨r, fun w _ => by
    unfold Oper.quietAt execOp
    simp only [ho, Option.map_none, Option.map_some, hx, hy, Sem.run_bind, Sem.run_pure, Result.andThen_ok, h w]
    exact ⟨rfl, rfl⟩, hK⟩
theorem quiet_slice_lo {o : Oper} {a : Act} {C : World → Prop} {K : Act → Prop} (x y : Operand) (ho : o.op = .slice 35 x (some y) none none) (v u r : Value) (hx : a.eval x = v) (hy : a.eval y = u)
    (h : ∀ w, (Instr.sliceAt 35 v (some u) none none).run Try.prog w = .ok r w) (hK : K (a.put o.dst r)) : o.quiet Try.prog a C K :=
  ⟨r, fun w _ => by
    unfold Oper.quietAt execOp
    simp only [ho, Option.map_none, Option.map_some, hx, hy, Sem.run_bind, Sem.run_pure, Result.andThen_ok, h w]
    exact ⟨rfl, rfl⟩, hK⟩
/-! makers of cores -/
set_option maxHeartbeats 4000000 in
theorem ch_walk {a : Option Addr} {n cap : Nat} {l : List Nat} {w : World} (hl : BytesAt w a n cap l) : Calls Try.prog 10 #[.slice a n cap] w (CoreNew (.mk 2 (setOf l) 0 []) w) := by
  obtain ⟨W, hW⟩ : ∃ W, W = w.alloc (.cells #[.int .i64 0, .int .u64 0, .int .u64 0, .int .u64 0, .int .u64 0, .int .i64 0, .slice none 0 0] 28) := ⟨_, rfl⟩
  have hbW : Below w.heap.size w W := by rw [hW]; exact alloc_below w _
  have hres : CoreIn W w.heap.size #[.int .i64 0, .int .u64 0, .int .u64 0, .int .u64 0, .int .u64 0, .int .i64 0, .slice none 0 0] := by rw [hW]; exact World.alloc_heap_new w _
  have hof := of_any a n cap l W (bytes_keep hl hbW)
  have Hres := Lib.hid hres
  have HbW := Lib.hid hbW
  clear hbW hres hl
  go_enter Try.func10, Try.ntmps10
  go_upto_region 1 with fail
  rw [← hW]
  clear hW
  go_wp2_with fail
  refine hof.mono ?_
  rintro e w2 ⟨rfl, hb2⟩
  have Hres2 := Lib.hid (core_later hb2 Hres.out)
  have Hb2 := Lib.hid (HbW.out.trans (hb2.mono HbW.out.size))
  clear hb2 hof
  go_wp2_with (first
    | (refine wpList_store_core rfl _ _ rfl w.heap.size _ #[.int .i64 2, .int .u64 (word (setOf l) 0), .int .u64 (word (setOf l) 1), .int .u64 (word (setOf l) 2), .int .u64 (word (setOf l) 3), .int .i64 0, .slice none 0 0] rfl rfl Hres2.out rfl rfl (by simp [Value.oneCell']) ?_; intro wz hsz hoz; have Hsz := Lib.hid hsz; have Hoz := Lib.hid hoz; clear hsz hoz; simp only [Act.put])
    | fail)
  refine bodyPost_ret (results_core rfl _ _ w.heap.size _ rfl Hsz.out rfl) rfl ⟨[.int .i64 2, .int .u64 (word (setOf l) 0), .int .u64 (word (setOf l) 1), .int .u64 (word (setOf l) 2), .int .u64 (word (setOf l) 3), .int .i64 0, .slice none 0 0], rfl, ?_, Hoz.out.below Hb2.out (Nat.le_refl _)⟩
  exact at_plain (setOf l) rfl rfl

set_option maxHeartbeats 4000000 in
theorem seq_walk {x y : Cr} {cs ds : List Value} {w : World} (hx : Cr.at w x cs) (hy : Cr.at w y ds) : Calls Try.prog 8 #[.agg cs.toArray, .agg ds.toArray] w (CoreNew (.mk 3 0 0 [x, y]) w) := by
  obtain ⟨W, hW⟩ : ∃ W, W = ((w.alloc (.cells cs.toArray 28)).alloc (.cells ds.toArray 28)).alloc (.cells #[.int .i64 0, .int .u64 0, .int .u64 0, .int .u64 0, .int .u64 0, .int .i64 0, .slice none 0 0] 28) := ⟨_, rfl⟩
  have hbW : Below w.heap.size w W := by rw [hW]; exact (((Below.refl _ _).alloc (Nat.le_refl _) _).alloc (by simp) _).alloc (by simp; omega) _
  have hsW : W.heap.size = w.heap.size + 3 := by rw [hW]; simp
  have h0 : CoreIn W w.heap.size cs.toArray := by rw [hW]; exact (Below.heap_alloc _ _ _ (by simp; omega)).trans ((Below.heap_alloc _ _ _ (by simp)).trans (World.alloc_heap_new w _))
  have h1 : CoreIn W (w.heap.size + 1) ds.toArray := by
    have h := World.alloc_heap_new (w.alloc (.cells cs.toArray 28)) (.cells ds.toArray 28)
    rw [World.size_alloc] at h
    rw [hW]; exact (Below.heap_alloc _ _ _ (by simp)).trans h
  have h2 : CoreIn W (w.heap.size + 2) #[.int .i64 0, .int .u64 0, .int .u64 0, .int .u64 0, .int .u64 0, .int .i64 0, .slice none 0 0] := by
    have h := World.alloc_heap_new ((w.alloc (.cells cs.toArray 28)).alloc (.cells ds.toArray 28)) (.cells #[.int .i64 0, .int .u64 0, .int .u64 0, .int .u64 0, .int .u64 0, .int .i64 0, .slice none 0 0] 28)
    rw [World.size_alloc, World.size_alloc] at h
    rw [hW]; exact h
  have h70 := core7_in h0 (at_len hx)
  have h71 := core7_in h1 (at_len hy)
  -- the list
  obtain ⟨W2, hW2⟩ : ∃ W2, W2 = W.alloc (.cells (cs ++ ds).toArray 28) := ⟨_, rfl⟩
  have hb2 : Below W.heap.size W W2 := by rw [hW2]; exact alloc_below W _
  have hrow : W2.heap[W.heap.size]? = some (.cells (cs ++ ds).toArray 28) := by rw [hW2]; exact World.alloc_heap_new W _
  have hax := Cr.at_below (hbW.trans (hb2.mono hbW.size)) (Nat.le_refl _) _ _ hx
  have hay := Cr.at_below (hbW.trans (hb2.mono hbW.size)) (Nat.le_refl _) _ _ hy
  have hfin : ∀ w', Only (w.heap.size + 2) W2 w' → Cr.at w' (.mk 3 0 0 [x, y]) [.int .i64 3, .int .u64 0, .int .u64 0, .int .u64 0, .int .u64 0, .int .i64 0, .slice (some ⟨W.heap.size, 0, none⟩) 2 2] := fun w' ho => by
    have hkeep : Below w.heap.size W2 w' := ho.below (Below.refl _ _) (by omega)
    have hk2 := (hbW.trans (hb2.mono hbW.size)).trans hkeep
    have hb : w'.heap[W.heap.size]? = some (.cells (cs ++ ds).toArray 28) := (ho.block _ (by omega)).trans hrow
    exact at_made (W := w') (b := W.heap.size) (k := 3) (n := 0) rfl rfl [(x, cs), (y, ds)] (by show 2 ≤ maxLen; decide) (by
      intro p hp
      simp only [List.mem_cons, List.not_mem_nil, or_false] at hp
      rcases hp with rfl | rfl
      · exact Cr.at_below hk2 (Nat.le_refl _) _ _ hx
      · exact Cr.at_below hk2 (Nat.le_refl _) _ _ hy) (by simpa using hb)
  have Hfin := Lib.hid hfin
  have H2 := Lib.hid ((hb2.block _ (lt_of_block h2)).trans h2)
  have HbW2 := Lib.hid (hbW.trans (hb2.mono hbW.size))
  obtain ⟨k1, s1, n1, a1, len1, cap1, rfl⟩ := at_lit hx
  obtain ⟨k2, s2, n2, a2, len2, cap2, rfl⟩ := at_lit hy
  clear hfin hb2 hrow hax hay h0 h1 h2 hbW hx hy hsW
  go_enter Try.func8, Try.ntmps8
  go_upto_region 1 with fail
  rw [← hW]
  clear hW
  rw [show w.heap.size + 1 + 1 = w.heap.size + 2 from rfl]
  have hW2' : W.alloc (.cells #[.int .i64 k1, .int .u64 (word s1 0), .int .u64 (word s1 1), .int .u64 (word s1 2), .int .u64 (word s1 3), .int .i64 n1, .slice a1 len1 cap1, .int .i64 k2, .int .u64 (word s2 0), .int .u64 (word s2 1), .int .u64 (word s2 2), .int .u64 (word s2 3), .int .i64 n2, .slice a2 len2 cap2] 28) = W2 := hW2.symm
  have HW2 := Lib.hid hW2'
  clear hW2 hW2'
  go_wp2_with (first
    | (refine wpList_load_core rfl _ rfl w.heap.size 0 _ rfl h70 ?_)
    | (refine wpList_load_core rfl _ rfl (w.heap.size + 1) 0 _ rfl h71 ?_)
    | (rw [HW2.out]; refine wpList_store_core rfl _ _ rfl (w.heap.size + 2) _ #[.int .i64 3, .int .u64 0, .int .u64 0, .int .u64 0, .int .u64 0, .int .i64 0, .slice (some ⟨W.heap.size, 0, none⟩) 2 2] rfl rfl H2.out rfl rfl (by simp [Value.oneCell']) ?_; intro wz hsz hoz; have Hsz := Lib.hid hsz; have Hoz := Lib.hid hoz; clear hsz hoz; simp only [Act.put])
    | fail)
  exact bodyPost_ret (results_core rfl _ _ (w.heap.size + 2) _ rfl Hsz.out rfl) rfl ⟨[.int .i64 3, .int .u64 0, .int .u64 0, .int .u64 0, .int .u64 0, .int .i64 0, .slice (some ⟨W.heap.size, 0, none⟩) 2 2], rfl, Hfin.out _ Hoz.out, Hoz.out.below HbW2.out (by omega)⟩

set_option maxHeartbeats 4000000 in
theorem alt_walk {x y : Cr} {cs ds : List Value} {w : World} (hx : Cr.at w x cs) (hy : Cr.at w y ds) : Calls Try.prog 9 #[.agg cs.toArray, .agg ds.toArray] w (CoreNew (.mk 4 0 0 [x, y]) w) := by
  obtain ⟨W, hW⟩ : ∃ W, W = ((w.alloc (.cells cs.toArray 28)).alloc (.cells ds.toArray 28)).alloc (.cells #[.int .i64 0, .int .u64 0, .int .u64 0, .int .u64 0, .int .u64 0, .int .i64 0, .slice none 0 0] 28) := ⟨_, rfl⟩
  have hbW : Below w.heap.size w W := by rw [hW]; exact (((Below.refl _ _).alloc (Nat.le_refl _) _).alloc (by simp) _).alloc (by simp; omega) _
  have hsW : W.heap.size = w.heap.size + 3 := by rw [hW]; simp
  have h0 : CoreIn W w.heap.size cs.toArray := by rw [hW]; exact (Below.heap_alloc _ _ _ (by simp; omega)).trans ((Below.heap_alloc _ _ _ (by simp)).trans (World.alloc_heap_new w _))
  have h1 : CoreIn W (w.heap.size + 1) ds.toArray := by
    have h := World.alloc_heap_new (w.alloc (.cells cs.toArray 28)) (.cells ds.toArray 28)
    rw [World.size_alloc] at h
    rw [hW]; exact (Below.heap_alloc _ _ _ (by simp)).trans h
  have h2 : CoreIn W (w.heap.size + 2) #[.int .i64 0, .int .u64 0, .int .u64 0, .int .u64 0, .int .u64 0, .int .i64 0, .slice none 0 0] := by
    have h := World.alloc_heap_new ((w.alloc (.cells cs.toArray 28)).alloc (.cells ds.toArray 28)) (.cells #[.int .i64 0, .int .u64 0, .int .u64 0, .int .u64 0, .int .u64 0, .int .i64 0, .slice none 0 0] 28)
    rw [World.size_alloc, World.size_alloc] at h
    rw [hW]; exact h
  have h70 := core7_in h0 (at_len hx)
  have h71 := core7_in h1 (at_len hy)
  -- the list
  obtain ⟨W2, hW2⟩ : ∃ W2, W2 = W.alloc (.cells (cs ++ ds).toArray 28) := ⟨_, rfl⟩
  have hb2 : Below W.heap.size W W2 := by rw [hW2]; exact alloc_below W _
  have hrow : W2.heap[W.heap.size]? = some (.cells (cs ++ ds).toArray 28) := by rw [hW2]; exact World.alloc_heap_new W _
  have hax := Cr.at_below (hbW.trans (hb2.mono hbW.size)) (Nat.le_refl _) _ _ hx
  have hay := Cr.at_below (hbW.trans (hb2.mono hbW.size)) (Nat.le_refl _) _ _ hy
  have hfin : ∀ w', Only (w.heap.size + 2) W2 w' → Cr.at w' (.mk 4 0 0 [x, y]) [.int .i64 4, .int .u64 0, .int .u64 0, .int .u64 0, .int .u64 0, .int .i64 0, .slice (some ⟨W.heap.size, 0, none⟩) 2 2] := fun w' ho => by
    have hkeep : Below w.heap.size W2 w' := ho.below (Below.refl _ _) (by omega)
    have hk2 := (hbW.trans (hb2.mono hbW.size)).trans hkeep
    have hb : w'.heap[W.heap.size]? = some (.cells (cs ++ ds).toArray 28) := (ho.block _ (by omega)).trans hrow
    exact at_made (W := w') (b := W.heap.size) (k := 4) (n := 0) rfl rfl [(x, cs), (y, ds)] (by show 2 ≤ maxLen; decide) (by
      intro p hp
      simp only [List.mem_cons, List.not_mem_nil, or_false] at hp
      rcases hp with rfl | rfl
      · exact Cr.at_below hk2 (Nat.le_refl _) _ _ hx
      · exact Cr.at_below hk2 (Nat.le_refl _) _ _ hy) (by simpa using hb)
  have Hfin := Lib.hid hfin
  have H2 := Lib.hid ((hb2.block _ (lt_of_block h2)).trans h2)
  have HbW2 := Lib.hid (hbW.trans (hb2.mono hbW.size))
  obtain ⟨k1, s1, n1, a1, len1, cap1, rfl⟩ := at_lit hx
  obtain ⟨k2, s2, n2, a2, len2, cap2, rfl⟩ := at_lit hy
  clear hfin hb2 hrow hax hay h0 h1 h2 hbW hx hy hsW
  go_enter Try.func9, Try.ntmps9
  go_upto_region 1 with fail
  rw [← hW]
  clear hW
  rw [show w.heap.size + 1 + 1 = w.heap.size + 2 from rfl]
  have hW2' : W.alloc (.cells #[.int .i64 k1, .int .u64 (word s1 0), .int .u64 (word s1 1), .int .u64 (word s1 2), .int .u64 (word s1 3), .int .i64 n1, .slice a1 len1 cap1, .int .i64 k2, .int .u64 (word s2 0), .int .u64 (word s2 1), .int .u64 (word s2 2), .int .u64 (word s2 3), .int .i64 n2, .slice a2 len2 cap2] 28) = W2 := hW2.symm
  have HW2 := Lib.hid hW2'
  clear hW2 hW2'
  go_wp2_with (first
    | (refine wpList_load_core rfl _ rfl w.heap.size 0 _ rfl h70 ?_)
    | (refine wpList_load_core rfl _ rfl (w.heap.size + 1) 0 _ rfl h71 ?_)
    | (rw [HW2.out]; refine wpList_store_core rfl _ _ rfl (w.heap.size + 2) _ #[.int .i64 4, .int .u64 0, .int .u64 0, .int .u64 0, .int .u64 0, .int .i64 0, .slice (some ⟨W.heap.size, 0, none⟩) 2 2] rfl rfl H2.out rfl rfl (by simp [Value.oneCell']) ?_; intro wz hsz hoz; have Hsz := Lib.hid hsz; have Hoz := Lib.hid hoz; clear hsz hoz; simp only [Act.put])
    | fail)
  exact bodyPost_ret (results_core rfl _ _ (w.heap.size + 2) _ rfl Hsz.out rfl) rfl ⟨[.int .i64 4, .int .u64 0, .int .u64 0, .int .u64 0, .int .u64 0, .int .i64 0, .slice (some ⟨W.heap.size, 0, none⟩) 2 2], rfl, Hfin.out _ Hoz.out, Hoz.out.below HbW2.out (by omega)⟩

set_option maxHeartbeats 4000000 in
theorem star_walk {x : Cr} {cs : List Value} {w : World} (hx : Cr.at w x cs) : Calls Try.prog 11 #[.agg cs.toArray] w (CoreNew (.mk 5 0 0 [x]) w) := by
  obtain ⟨W, hW⟩ : ∃ W, W = (w.alloc (.cells cs.toArray 28)).alloc (.cells #[.int .i64 0, .int .u64 0, .int .u64 0, .int .u64 0, .int .u64 0, .int .i64 0, .slice none 0 0] 28) := ⟨_, rfl⟩
  have hbW : Below w.heap.size w W := by rw [hW]; exact two_below' _ _ _
  have hsW : W.heap.size = w.heap.size + 2 := by rw [hW]; simp
  have h0 : CoreIn W w.heap.size cs.toArray := by rw [hW]; exact (Below.heap_alloc _ _ _ (by simp)).trans (World.alloc_heap_new w _)
  have h1 : CoreIn W (w.heap.size + 1) #[.int .i64 0, .int .u64 0, .int .u64 0, .int .u64 0, .int .u64 0, .int .i64 0, .slice none 0 0] := by
    have h := World.alloc_heap_new (w.alloc (.cells cs.toArray 28)) (.cells #[.int .i64 0, .int .u64 0, .int .u64 0, .int .u64 0, .int .u64 0, .int .i64 0, .slice none 0 0] 28)
    rw [World.size_alloc] at h
    rw [hW]; exact h
  have h70 := core7_in h0 (at_len hx)
  obtain ⟨W2, hW2⟩ : ∃ W2, W2 = W.alloc (.cells cs.toArray 28) := ⟨_, rfl⟩
  have hb2 : Below W.heap.size W W2 := by rw [hW2]; exact alloc_below W _
  have hrow : W2.heap[W.heap.size]? = some (.cells cs.toArray 28) := by rw [hW2]; exact World.alloc_heap_new W _
  have hfin : ∀ w', Only (w.heap.size + 1) W2 w' → Cr.at w' (.mk 5 0 0 [x]) [.int .i64 5, .int .u64 0, .int .u64 0, .int .u64 0, .int .u64 0, .int .i64 0, .slice (some ⟨W.heap.size, 0, none⟩) 1 1] := fun w' ho => by
    have hkeep : Below w.heap.size W2 w' := ho.below (Below.refl _ _) (by omega)
    have hk2 := (hbW.trans (hb2.mono hbW.size)).trans hkeep
    have hb : w'.heap[W.heap.size]? = some (.cells cs.toArray 28) := (ho.block _ (by omega)).trans hrow
    exact at_made (W := w') (b := W.heap.size) (k := 5) (n := 0) rfl rfl [(x, cs)] (by show 1 ≤ maxLen; decide) (by
      intro p hp
      rw [List.mem_singleton] at hp
      subst hp
      exact Cr.at_below hk2 (Nat.le_refl _) _ _ hx) (by simpa using hb)
  have Hfin := Lib.hid hfin
  have H2 := Lib.hid ((hb2.block _ (lt_of_block h1)).trans h1)
  have HbW2 := Lib.hid (hbW.trans (hb2.mono hbW.size))
  obtain ⟨k1, s1, n1, a1, len1, cap1, rfl⟩ := at_lit hx
  clear hfin hb2 hrow h0 h1 hbW hx hsW
  go_enter Try.func11, Try.ntmps11
  go_upto_region 1 with fail
  rw [← hW]
  clear hW
  have hW2' : W.alloc (.cells #[.int .i64 k1, .int .u64 (word s1 0), .int .u64 (word s1 1), .int .u64 (word s1 2), .int .u64 (word s1 3), .int .i64 n1, .slice a1 len1 cap1] 28) = W2 := hW2.symm
  have HW2 := Lib.hid hW2'
  clear hW2 hW2'
  go_wp2_with (first
    | (refine wpList_load_core rfl _ rfl w.heap.size 0 _ rfl h70 ?_)
    | (rw [HW2.out]; refine wpList_store_core rfl _ _ rfl (w.heap.size + 1) _ #[.int .i64 5, .int .u64 0, .int .u64 0, .int .u64 0, .int .u64 0, .int .i64 0, .slice (some ⟨W.heap.size, 0, none⟩) 1 1] rfl rfl H2.out rfl rfl (by simp [Value.oneCell']) ?_; intro wz hsz hoz; have Hsz := Lib.hid hsz; have Hoz := Lib.hid hoz; clear hsz hoz; simp only [Act.put])
    | fail)
  exact bodyPost_ret (results_core rfl _ _ (w.heap.size + 1) _ rfl Hsz.out rfl) rfl ⟨[.int .i64 5, .int .u64 0, .int .u64 0, .int .u64 0, .int .u64 0, .int .i64 0, .slice (some ⟨W.heap.size, 0, none⟩) 1 1], rfl, Hfin.out _ Hoz.out, Hoz.out.below HbW2.out (by omega)⟩
/-! ints -/
def NatsAt (w : World) (v : Value) (l : List Nat) : Prop := ∃ a cap, v = .slice a l.length cap ∧ l.length ≤ maxLen ∧ (l.length = 0 ∨ ∃ g, a = some ⟨g, 0, none⟩ ∧ l.length ≤ cap ∧ g < w.heap.size ∧ ∀ (j n : Nat), l[j]? = some n → w.cell? ⟨g, j, none⟩ = some (.int .i64 (n : Int)))
theorem NatsAt.below {w w' : World} {v : Value} {l : List Nat} (h : NatsAt w v l) (hb : Below w.heap.size w w') : NatsAt w' v l := by
  obtain ⟨a, cap, h1, h2, h3⟩ := h
  refine ⟨a, cap, h1, h2, ?_⟩
  rcases h3 with h3 | ⟨g, e, h4, h5, h6⟩
  · exact .inl h3
  · exact .inr ⟨g, e, h4, Nat.lt_of_lt_of_le h5 hb.size, fun j n hj => (hb.cell (p := ⟨g, j, none⟩) h5).trans (h6 j n hj)⟩
theorem natRow_at {L : List Nat} {w : World} {e : Ending} {w' : World} (h : NatRow L w e w') : ∃ v, e = .returned v ∧ NatsAt w' v L ∧ Below w.heap.size w w' := by
  obtain ⟨v, rfl, hown, hb⟩ := h
  obtain ⟨a, cap, rfl, h1, h2⟩ := nats_open hown
  refine ⟨_, rfl, ⟨a, cap, rfl, h1, ?_⟩, hb⟩
  rcases h2 with h2 | ⟨g, e, h3, h4, _, h5⟩
  · exact .inl h2
  · exact .inr ⟨g, e, h3, h4, h5⟩
set_option maxHeartbeats 4000000 in
theorem ints_walk {v u : Value} {l m : List Nat} {w : World} (hv : NatsAt w v l) (hu : NatsAt w u m) : Calls Try.prog 12 #[v, u] w fun e w' => e = .returned (.bool (decide (l = m))) ∧ Below w.heap.size w w' := by
  obtain ⟨a, cap, rfl, h1, h2⟩ := hv
  obtain ⟨a', cap', rfl, h1', h2'⟩ := hu
  unfold maxLen at h1 h1'
  by_cases hlen : l.length = m.length
  rotate_left 1
  · have hne : decide (l = m) = false := decide_eq_false (fun h => hlen (by rw [h]))
    rw [hne]
    have d1 : ((l.length : Int) == (m.length : Int)) = false := by rw [beq_eq_false_iff_ne]; omega
    have d2 : ((l.length : Int) != (m.length : Int)) = true := by simp [bne, d1]
    clear hlen hne h2 h2'
    go_enter Try.func12, Try.ntmps12
    go_wp2_with fail
    go_ret
    exact ⟨rfl, Below.refl _ _⟩
  · rw [← hlen] at h1' h2' ⊢
    have d2 : ((l.length : Int) != (l.length : Int)) = false := by simp [bne]
    have Hlen := Lib.hid hlen
    obtain ⟨R, hR⟩ : ∃ R, R = decide (l = m) := ⟨_, rfl⟩
    rw [← hR]
    have HR := Lib.hid hR
    clear hlen hR
    go_enter Try.func12, Try.ntmps12
    go_wp2_with fail
    go_loopw [5] (fun i wr => ∃ j : Nat, i = .int .i64 j ∧ j ≤ l.length ∧ Hid (l.take j = m.take j) ∧ Below w.heap.size w wr) (fun i _ => l.length - (intOf i).toNat)
    case atStart => exact ⟨0, rfl, Nat.zero_le _, rfl, Below.refl _ _⟩
    case round =>
      obtain ⟨j, rfl, hj, heq, hb⟩ := hrel
      by_cases hjl : j < l.length
      · have hd : decide ((j : Int) < l.length) = true := by simp; omega
        rcases h2 with h | ⟨g, rfl, hc, hg, hget⟩
        · omega
        rcases h2' with h | ⟨g', rfl, hc', hg', hget'⟩
        · omega
        have hjm : j < m.length := by have := Hlen.out; omega
        obtain ⟨x, hx⟩ : ∃ x, x = l[j] := ⟨_, rfl⟩
        obtain ⟨y, hy⟩ : ∃ y, y = m[j] := ⟨_, rfl⟩
        have k0 : ∀ L : Later wr, L.val.cell? ⟨g, j, none⟩ = some (.int .i64 (x : Int)) := fun L => by
          rw [L.ok.cell (p := ⟨g, j, none⟩) (Nat.lt_of_lt_of_le hg hb.size), hb.cell (p := ⟨g, j, none⟩) hg, hx]
          exact hget j _ (List.getElem?_eq_getElem hjl)
        have k1 : ∀ L : Later wr, L.val.cell? ⟨g', j, none⟩ = some (.int .i64 (y : Int)) := fun L => by
          rw [L.ok.cell (p := ⟨g', j, none⟩) (Nat.lt_of_lt_of_le hg' hb.size), hb.cell (p := ⟨g', j, none⟩) hg', hy]
          exact hget' j _ (List.getElem?_eq_getElem hjm)
        have hne := Later.nonempty wr
        have Hb := Lib.hid hb
        have Hstep : Hid (x = y → l.take (j + 1) = m.take (j + 1)) := Lib.hid (fun e => by
          rw [List.take_succ_eq_append_getElem hjl, List.take_succ_eq_append_getElem hjm, heq.out, ← hx, ← hy, e])
        have Hdiff : Hid (x ≠ y → R = false) := Lib.hid (fun e => by
          rw [HR.out]
          refine decide_eq_false (fun h => e ?_)
          subst h
          rw [hx, hy])
        clear hx hy hget hget' hb heq
        by_cases hxy : x = y
        · have d3 : ((x : Int) != (y : Int)) = false := by rw [hxy]; simp [bne]
          have Hs := Lib.hid (Hstep.out hxy)
          clear hxy Hstep Hdiff
          go_wp2_with fail
          refine wp_region_later (W0 := wr) (Below.refl _ _) (by kernel_rfl) (by as_aux_lemma => kernel_rfl) ?_
          repeat (go_big_quiet_step (fail))
          refine wpQuiet_nil ?_
          intro w' hw'
          obtain ⟨L', rfl⟩ := hw'
          have Hb2 := Lib.hid (Hb.out.trans (L'.ok.mono Hb.out.size))
          clear k0 k1
          go_wp2_with fail
          go_roundw
          case rel => exact ⟨j + 1, by go_num, hjl, Hs.out, Hb2.out⟩
          case measure => simp [intOf]; omega
        · have d3 : ((x : Int) != (y : Int)) = true := by simp [bne]; omega
          have hRf := Hdiff.out hxy
          clear hxy Hstep Hdiff HR
          subst hRf
          go_wp2_with fail
          refine wp_region_later (W0 := wr) (Below.refl _ _) (by kernel_rfl) (by as_aux_lemma => kernel_rfl) ?_
          repeat (go_big_quiet_step (fail))
          refine wpQuiet_nil ?_
          intro w' hw'
          obtain ⟨L', rfl⟩ := hw'
          have Hb2 := Lib.hid (Hb.out.trans (L'.ok.mono Hb.out.size))
          clear k0 k1
          go_wp2_with fail
          go_ret
          exact ⟨rfl, Hb2.out⟩
      · obtain rfl : j = l.length := by omega
        have hd : decide ((l.length : Int) < l.length) = false := by simp
        have hRt : R = true := by
          have h := heq.out
          rw [List.take_length, Hlen.out, List.take_length] at h
          rw [HR.out]; exact decide_eq_true h
        clear h2 h2' HR heq
        subst hRt
        go_wp2_with fail
        go_ret
        exact ⟨rfl, hb⟩
end K
end Go.Proofs.Ytobhjfhmhhahoaa
