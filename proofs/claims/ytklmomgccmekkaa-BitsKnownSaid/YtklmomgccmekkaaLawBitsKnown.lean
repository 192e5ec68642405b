/- The law BitsKnown, walked. -/
import Derived.Test.YtklmomgccmekkaaBitsLaw
import Derived.Test.YtklmomgccmekkaaHoldKit
import Derived.Test.YtklmomgccmekkaaAnyInv
namespace Go.Proofs.Ytklmomgccmekkaa
namespace V
set_option maxRecDepth 100000
open Go.RowKit
def bC : BitVec 256 := setOf [99]
def bAB : BitVec 256 := setOf [97, 98]
def kcore : K.Cr := .mk 5 0 0 [.mk 4 0 0 [.mk 2 bA 0 [], .mk 3 0 0 [.mk 2 bB 0 [], .mk 4 0 0 [.mk 2 bC 0 [], .mk 1 0 0 []]]]]
def kval : Vl := (Vl.mk 6 0 [.mk 4 0 [.mk 2 97 []], .mk 5 0 [.mk 3 0 [.mk 2 98 [], .mk 4 0 [.mk 2 99 []]]]])
def bads : List ByteArray := [(⟨#[]⟩ : ByteArray), (⟨#[49]⟩ : ByteArray), (⟨#[48]⟩ : ByteArray), (⟨#[48, 48]⟩ : ByteArray), (⟨#[48, 48, 48]⟩ : ByteArray), (⟨#[48, 48, 48, 49, 49]⟩ : ByteArray), (⟨#[48, 48, 48, 49, 49, 49, 49, 49]⟩ : ByteArray), (⟨#[48, 48, 48, 49, 49, 49, 50]⟩ : ByteArray), (⟨#[120]⟩ : ByteArray)]
theorem bads_bad : ∀ j (h : j < bads.length), (resG kcore (nats bads[j]) [97, 98]).1.same v0 = true ∧ (resG kcore (nats bads[j]) [97, 98]).2 = 7 := by
  have h : bads.all (fun t => (resG kcore (nats t) [97, 98]).1.same v0 && decide ((resG kcore (nats t) [97, 98]).2 = 7)) = true := by decide +kernel
  intro j hj
  have h2 := List.all_eq_true.1 h bads[j] (List.getElem_mem hj)
  rw [Bool.and_eq_true, decide_eq_true_eq] at h2
  exact h2
theorem bads_len : bads.length = 9 := rfl
theorem bads_size : ∀ j (h : j < bads.length), bads[j].size ≤ 9223372036854775807 := by
  have h : bads.all (fun t => decide (t.size ≤ 9223372036854775807)) = true := by decide +kernel
  intro j hj
  exact of_decide_eq_true (List.all_eq_true.1 h bads[j] (List.getElem_mem hj))
theorem bt {a b c : World} (h : Below a.heap.size a b) (h' : Below b.heap.size b c) : Below a.heap.size a c := h.trans (h'.mono h.size)
theorem bytes_nil (w : World) : BytesAt w none 0 0 [] := ⟨rfl, (fun _ h => by cases h), (by decide), .inl rfl⟩
theorem zero_len {w : World} {k : Int} {z : Nat} {a : Option Addr} {len cap : Nat} (h : Vl.at w v0 [.int .i64 k, .int .u8 z, .slice a len cap]) : len = 0 := by
  rw [at_mk] at h
  obtain ⟨_, _, a', cap', e, _⟩ := h
  injection e with _ e
  injection e with _ e
  injection e with e _
  injection e with _ e _
theorem zeros_257' (n : Nat) : (madeCells (Value.int IntKind.u8 0).cells (n * 1)).toList = (List.replicate n 0).map u8v := by
  rw [List.map_replicate, Nat.mul_one]
  exact toList_madeCells_one (.int .u8 0) n
theorem wp_make_u8 {o : Oper} {a : Act} {w : World} {K : Act → World → Prop} {Q : Exit → Act → World → Prop} (x y : Operand) (ho : o.op = .makeSlice 39 x y) (n : Nat) (hx : a.eval x = .int .i64 n) (hy : a.eval y = .int .i64 n) (hn : n ≤ 100000)
    (h : ∀ w', BytesAt w' (some ⟨w.heap.size, 0, none⟩) n n (List.replicate n 0) → Below w.heap.size w w' → K (a.put o.dst (.slice (some ⟨w.heap.size, 0, none⟩) n n)) w') : o.wp Try.prog a w K Q := by
  obtain ⟨i0, hi, hz0, hz1, hz2⟩ := info_parts info_u8
  obtain ⟨w', hr, h2, h3⟩ := run_makeSlice_full (P := Try.prog) w w.heap.size 39 5 i0 (.int .u8 0) 1 Try.underlying39 hi hz0 hz1 .i64 .i64 n (by omega) (by rw [hz2]; omega) (by unfold maxLen; omega) (Nat.le_refl _)
  rw [zeros_257'] at h2
  have hl : (List.replicate n 0).length = n := List.length_replicate
  have hb := bytesAt_of_owns (w' := w') (l := List.replicate n 0) (a := some ⟨w.heap.size, 0, none⟩) (cap := n) (base := w.heap.size) (by rw [hl]; exact h2) (by intro x hx; rw [List.eq_of_mem_replicate hx]; decide) (Below.refl _ _)
  rw [hl] at hb
  unfold Oper.wp execOp
  simp only [ho, hx, hy, hr, Sem.run_bind, Sem.run_pure, Result.andThen_ok]
  exact h _ hb ((Below.refl _ _).grown h3 (Nat.le_refl _) (fun k hk => by cases hk))
theorem resG_many (bs : List Nat) : resG kcore bs (List.replicate 257 0) = (v0, 1) := by
  unfold resG
  rw [List.length_replicate, decide_eq_true (by decide), Bool.true_or, if_pos rfl]
set_option maxHeartbeats 32000000 in
theorem bitsKnown_walk (w : World) : Calls Try.prog 3 #[] w fun e w' => e = .returned (.bool true) ∧ Below w.heap.size w w' := by
  go_enter Try.func3, Try.ntmps3
  go_wp2_with fail
  refine (awake11_any _).mono ?_
  rintro e w1 ⟨rfl, hb'⟩
  have H1 := Lib.hid hb'
  clear hb'
  go_wp2_with fail
  refine (ch_eq (s := bA) (bytes_lit w1 [97] #[.int .u8 97] rfl (by decide) (by decide)) rfl).mono ?_
  rintro e w2 ⟨z2, rfl, hat2, hb'⟩
  obtain ⟨k2, s2, n2, a2, len2, cap2, rfl⟩ := K.at_lit hat2
  have H2 := Lib.hid (bt (K.alloc_below w1 _) hb')
  have A2 := Lib.hid hat2
  clear hb' hat2
  go_wp2_with fail
  refine (ch_eq (s := bB) (bytes_lit w2 [98] #[.int .u8 98] rfl (by decide) (by decide)) rfl).mono ?_
  rintro e w3 ⟨z3, rfl, hat3, hb'⟩
  obtain ⟨k3, s3, n3, a3, len3, cap3, rfl⟩ := K.at_lit hat3
  have H3 := Lib.hid (bt (K.alloc_below w2 _) hb')
  have A3 := Lib.hid hat3
  clear hb' hat3
  go_wp2_with fail
  refine (ch_eq (s := bC) (bytes_lit w3 [99] #[.int .u8 99] rfl (by decide) (by decide)) rfl).mono ?_
  rintro e w4 ⟨z4, rfl, hat4, hb'⟩
  obtain ⟨k4, s4, n4, a4, len4, cap4, rfl⟩ := K.at_lit hat4
  have H4 := Lib.hid (bt (K.alloc_below w3 _) hb')
  have A4 := Lib.hid hat4
  clear hb' hat4
  go_wp2_with fail
  refine (K.eps_walk w4).mono ?_
  rintro e w5 ⟨z5, rfl, hat5, hb'⟩
  obtain ⟨k5, s5, n5, a5, len5, cap5, rfl⟩ := K.at_lit hat5
  have H5 := Lib.hid hb'
  have A5 := Lib.hid hat5
  clear hb' hat5
  go_wp2_with fail
  refine (K.alt_walk (K.Cr.at_below H5.out (Nat.le_refl _) _ _ A4.out) A5.out).mono ?_
  rintro e w6 ⟨z6, rfl, hat6, hb'⟩
  obtain ⟨k6, s6, n6, a6, len6, cap6, rfl⟩ := K.at_lit hat6
  have H6 := Lib.hid hb'
  have A6 := Lib.hid hat6
  clear hb' hat6
  go_wp2_with fail
  refine (K.seq_walk (K.Cr.at_below (bt H4.out (bt H5.out H6.out)) (Nat.le_refl _) _ _ A3.out) A6.out).mono ?_
  rintro e w7 ⟨z7, rfl, hat7, hb'⟩
  obtain ⟨k7, s7, n7, a7, len7, cap7, rfl⟩ := K.at_lit hat7
  have H7 := Lib.hid hb'
  have A7 := Lib.hid hat7
  clear hb' hat7
  go_wp2_with fail
  refine (K.alt_walk (K.Cr.at_below (bt H3.out (bt H4.out (bt H5.out (bt H6.out H7.out)))) (Nat.le_refl _) _ _ A2.out) A7.out).mono ?_
  rintro e w8 ⟨z8, rfl, hat8, hb'⟩
  obtain ⟨k8, s8, n8, a8, len8, cap8, rfl⟩ := K.at_lit hat8
  have H8 := Lib.hid hb'
  have A8 := Lib.hid hat8
  clear hb' hat8
  go_wp2_with fail
  refine (K.star_walk A8.out).mono ?_
  rintro e w9 ⟨z9, rfl, hat9, hb'⟩
  obtain ⟨k9, s9, n9, a9, len9, cap9, rfl⟩ := K.at_lit hat9
  have H9 := Lib.hid hb'
  have A9 := Lib.hid hat9
  clear hb' hat9
  obtain ⟨w10, hw10⟩ : ∃ w10, w10 = w9.alloc (.cells #[.int .i64 k9, .int .u64 (word s9 0), .int .u64 (word s9 1), .int .u64 (word s9 2), .int .u64 (word s9 3), .int .i64 n9, .slice a9 len9 cap9] 28) := ⟨_, rfl⟩
  have hal : Below w9.heap.size w9 w10 := by rw [hw10]; exact K.alloc_below _ _
  have hc : K.CoreIn w10 w9.heap.size #[.int .i64 k9, .int .u64 (word s9 0), .int .u64 (word s9 1), .int .u64 (word s9 2), .int .u64 (word s9 3), .int .i64 n9, .slice a9 len9 cap9] := by rw [hw10]; exact World.alloc_heap_new _ _
  have h7 : K.Core7 w10 w9.heap.size 0 [.int .i64 k9, .int .u64 (word s9 0), .int .u64 (word s9 1), .int .u64 (word s9 2), .int .u64 (word s9 3), .int .i64 n9, .slice a9 len9 cap9] := K.core7_in hc rfl
  obtain ⟨bc, hbc⟩ : ∃ bc, bc = w9.heap.size := ⟨_, rfl⟩
  rw [← hbc] at h7
  have hlt : bc < w10.heap.size := by rw [hbc]; exact lt_of_block hc
  have hat : K.Cr.at w10 kcore [.int .i64 k9, .int .u64 (word s9 0), .int .u64 (word s9 1), .int .u64 (word s9 2), .int .u64 (word s9 3), .int .i64 n9, .slice a9 len9 cap9] := K.Cr.at_below hal (Nat.le_refl _) _ _ A9.out
  have BC := Lib.hid (fun (w' : World) (h : Below w10.heap.size w10 w') => And.intro (core7_below h7 hlt h) (K.Cr.at_below h (Nat.le_refl _) _ _ hat))
  have H10 := Lib.hid hal
  go_upto_region 4 with fail
  rw [← hw10, ← hbc]
  clear hw10 hal hc h7 hlt hat hbc
  go_wp2_with (first
    | (refine K.wpList_load_core rfl _ rfl bc 0 _ rfl (BC.out _ (Below.refl _ _)).1 ?_)
    | (refine wpList_conv_bytes rfl _ rfl w10.heap.size 2 2 #[.int .u8 97, .int .u8 98] 5 rfl (World.alloc_heap_new w10 _) ?_; intro w11 ho hc; have HO := Lib.hid (And.intro ho hc); clear ho hc)
    | fail)
  have hal11 : Below w10.heap.size w10 w11 := HO.out.1.below (K.alloc_below w10 _) (Nat.le_refl _)
  have hby : BytesAt w11 (some ⟨w10.heap.size, 0, none⟩) 2 2 [97, 98] := bytesAt_cells (bytes_lit w10 [97, 98] #[.int .u8 97, .int .u8 98] rfl (by decide) (by decide)) HO.out.2 (by rw [HO.out.1.size]; exact Nat.le_refl _)
  have H11 := Lib.hid hal11
  clear hal11 HO
  have hget := get_eq (t := (⟨#[48, 48, 48, 49, 49, 49, 48, 48, 49, 49]⟩ : ByteArray)) (v := v0) (b := 7) (K.Cr.at_below H11.out (Nat.le_refl _) _ _ (BC.out _ (Below.refl _ _)).2) hby (by decide) (by decide +kernel)
  have Hget := Lib.hid hget
  clear hget hby
  refine Hget.out.mono ?_
  rintro e w12 ⟨k12, z12, a12, len12, cap12, rfl, hv, hb'⟩
  obtain ⟨w13, hw13⟩ : ∃ w13, w13 = w12.alloc (.cells #[.int .i64 k12, .int .u8 z12, .slice a12 len12 cap12] 35) := ⟨_, rfl⟩
  have hal : Below w12.heap.size w12 w13 := by rw [hw13]; exact K.alloc_below _ _
  have h3 : Val3 w13 w12.heap.size 0 [.int .i64 k12, .int .u8 z12, .slice a12 len12 cap12] := val3_in (by rw [hw13]; exact World.alloc_heap_new _ _) rfl
  have hvv := Vl.at_below hal (Nat.le_refl _) _ _ hv
  obtain ⟨b12, hb12⟩ : ∃ b12, b12 = w12.heap.size := ⟨_, rfl⟩
  rw [← hb12] at h3
  have B12 := Lib.hid (fun (w' : World) (h : Below w13.heap.size w13 w') => And.intro (h3.below h3.lt h) (Vl.at_below h (Nat.le_refl _) _ _ hvv))
  have H13 := Lib.hid (bt hb' hal)
  clear hb' hv
  go_upto_region 5 with fail
  rw [← hw13, ← hb12]
  clear hw13 hal h3 hvv hb12 Hget
  go_wp2_with (first
    | (refine K.wpList_load_core rfl _ rfl bc 0 _ rfl (BC.out _ (bt H11.out H13.out)).1 ?_)
    | (refine wpList_conv_bytes rfl _ rfl w13.heap.size 2 2 #[.int .u8 97, .int .u8 98] 5 rfl (World.alloc_heap_new w13 _) ?_; intro w14 ho hc; have HO := Lib.hid (And.intro ho hc); clear ho hc)
    | fail)
  have hal14 : Below w13.heap.size w13 w14 := HO.out.1.below (K.alloc_below w13 _) (Nat.le_refl _)
  have hby : BytesAt w14 (some ⟨w13.heap.size, 0, none⟩) 2 2 [97, 98] := bytesAt_cells (bytes_lit w13 [97, 98] #[.int .u8 97, .int .u8 98] rfl (by decide) (by decide)) HO.out.2 (by rw [HO.out.1.size]; exact Nat.le_refl _)
  have H14 := Lib.hid hal14
  clear hal14 HO
  have hget := get_eq (t := (⟨#[48, 48, 48, 49, 49, 49, 49]⟩ : ByteArray)) (v := v0) (b := 7) (K.Cr.at_below H14.out (Nat.le_refl _) _ _ (BC.out _ (bt H11.out H13.out)).2) hby (by decide) (by decide +kernel)
  have Hget := Lib.hid hget
  clear hget hby
  refine Hget.out.mono ?_
  rintro e w15 ⟨k15, z15, a15, len15, cap15, rfl, hv, hb'⟩
  obtain ⟨w16, hw16⟩ : ∃ w16, w16 = w15.alloc (.cells #[.int .i64 k15, .int .u8 z15, .slice a15 len15 cap15] 35) := ⟨_, rfl⟩
  have hal : Below w15.heap.size w15 w16 := by rw [hw16]; exact K.alloc_below _ _
  have h3 : Val3 w16 w15.heap.size 0 [.int .i64 k15, .int .u8 z15, .slice a15 len15 cap15] := val3_in (by rw [hw16]; exact World.alloc_heap_new _ _) rfl
  have hvv := Vl.at_below hal (Nat.le_refl _) _ _ hv
  obtain ⟨b15, hb15⟩ : ∃ b15, b15 = w15.heap.size := ⟨_, rfl⟩
  rw [← hb15] at h3
  have B15 := Lib.hid (fun (w' : World) (h : Below w16.heap.size w16 w') => And.intro (h3.below h3.lt h) (Vl.at_below h (Nat.le_refl _) _ _ hvv))
  have H16 := Lib.hid (bt hb' hal)
  clear hb' hv
  go_upto_region 6 with fail
  rw [← hw16, ← hb15]
  clear hw16 hal h3 hvv hb15 Hget
  obtain ⟨w17, hw17⟩ : ∃ w17, w17 = w16.alloc (.cells #[.string (⟨#[]⟩ : ByteArray), .string (⟨#[49]⟩ : ByteArray), .string (⟨#[48]⟩ : ByteArray), .string (⟨#[48, 48]⟩ : ByteArray), .string (⟨#[48, 48, 48]⟩ : ByteArray), .string (⟨#[48, 48, 48, 49, 49]⟩ : ByteArray), .string (⟨#[48, 48, 48, 49, 49, 49, 49, 49]⟩ : ByteArray), .string (⟨#[48, 48, 48, 49, 49, 49, 50]⟩ : ByteArray), .string (⟨#[120]⟩ : ByteArray)] 9) := ⟨_, rfl⟩
  have hal : Below w16.heap.size w16 w17 := by rw [hw17]; exact K.alloc_below _ _
  have hrow : w17.heap[w16.heap.size]? = some (.cells (bads.map Value.string).toArray 9) := by rw [hw17]; exact World.alloc_heap_new _ _
  obtain ⟨bs, hbs⟩ : ∃ bs, bs = w16.heap.size := ⟨_, rfl⟩
  rw [← hbs] at hrow
  have hltS : bs < w17.heap.size := lt_of_block hrow
  have hstr : ∀ j (h : j < bads.length), w17.cell? ⟨bs, j, none⟩ = some (.string bads[j]) := fun j h => by
    rw [cells_at hrow]; simp [h]
  have BS := Lib.hid (fun (w' : World) (h : Below w17.heap.size w17 w') (j : Nat) (hj : j < bads.length) => (h.cell (p := ⟨bs, j, none⟩) hltS).trans (hstr j hj))
  have H17 := Lib.hid hal
  go_upto_region 7 with fail
  rw [← hw17, ← hbs]
  clear hw17 hal hrow hbs hltS hstr
  go_wp2_with fail
  go_loopw [7] (fun i wr => ∃ (j : Nat), i = .int .i64 j ∧ j ≤ 9 ∧ Hid (Below w17.heap.size w17 wr)) (fun i _ => 9 - (intOf i).toNat)
  case atStart => exact ⟨0, rfl, by decide, Lib.hid (Below.refl _ _)⟩
  case round =>
    obtain ⟨j, rfl, hj, hB⟩ := hrel
    by_cases hj9 : j < 9
    · have d1 : decide ((j : Int) < 9) = true := by simp; omega
      have d2 : decide (j < 9) = true := by simp; omega
      have hjb : j < bads.length := by rw [bads_len]; exact hj9
      have HJ := Lib.hid hjb
      have hjI : (0 : Int) ≤ (j : Int) := by omega
      go_upto_region 10 with fail
      go_cut [8, 9] from 58 to 68 (fun _ v9 wx => v9 = .int .i64 7 ∧ Below wr.heap.size wr wx)
      case first =>
        rename_i J0 K' hR hMet
        obtain ⟨wd, hwd⟩ : ∃ wd, wd = wr.drew := ⟨_, rfl⟩
        have hBd : Below wr.heap.size wr wd := by rw [hwd]; exact (Below.refl _ _).drew
        have hNE := HeldW.nonempty (S := fun w' => Below wr.heap.size wr w') hBd
        refine wp_region_hold (fun w' => Below wr.heap.size wr w') (.plain 0 (.plain 1 (.plain 2 (.plain 3 (.plain 4 (.fork 5 (.fork 6 (.fork 7 (.plain 8 (.plain 9 (.plain 10 (.sole 11 (.sole 12 (.plain 13 .done)))))) 11 (.sole 7 (.plain 8 (.plain 9 (.plain 10 (.sole 12 (.plain 13 .done))))))) 11 (.sole 6 (.sole 7 (.plain 8 (.plain 9 (.plain 10 (.sole 12 (.plain 13 .done)))))))) 11 (.sole 5 (.sole 6 (.sole 7 (.plain 8 (.plain 9 (.plain 10 (.sole 12 (.plain 13 .done)))))))))))))) (by rw [← hwd]; exact hBd) (by kernel_rfl) (by kernel_rfl) (fun c a d v w h => by cases d <;> exact h) ?_
        rw [← hwd]
        clear hwd
        repeat (first
            | (refine' hold_skip ?_ ?_ ?_
               rotate_left 1
               · simp only [List.getElem?_toArray, List.getElem?_cons_zero, List.getElem?_cons_succ]; exact rfl
               · exact rfl
               simp only [Act.put, List.setIfInBounds_toArray, List.set_cons_zero, List.set_cons_succ])
            | (refine' hold_want ?_ ?_ (fun J hJ => ?_)
               rotate_left 1
               · simp only [List.getElem?_toArray, List.getElem?_cons_zero, List.getElem?_cons_succ]; exact rfl
               · exact rfl
               first
               | (refine K.quiet_load_core _ rfl bc 0 _ rfl (fun w' ⟨L, hL⟩ => (BC.out _ (bt (bt (bt H11.out (bt H13.out (bt H14.out (bt H16.out H17.out)))) hB.out) (hL ▸ L.ok : Below wr.heap.size wr w'))).1) ?_; refine hJ _ ?_; clear hJ J; try simp only [Act.put, List.setIfInBounds_toArray, List.set_cons_zero, List.set_cons_succ])
               | (refine quiet_load_str _ rfl ⟨bs, j, none⟩ _ rfl (fun w' ⟨L, hL⟩ => BS.out _ (bt hB.out (hL ▸ L.ok : Below wr.heap.size wr w')) j HJ.out) ?_; refine hJ _ ?_; clear hJ J; try simp only [Act.put, List.setIfInBounds_toArray, List.set_cons_zero, List.set_cons_succ])
               | (refine quiet_extract _ _ rfl _ _ rfl rfl ?_; refine hJ _ ?_; clear hJ J; try simp only [Act.put, List.setIfInBounds_toArray, List.set_cons_zero, List.set_cons_succ])
               | (go_big_quiet_op; refine hJ _ ?_; clear hJ J; try simp only [Act.put, List.setIfInBounds_toArray, List.set_cons_zero, List.set_cons_succ])))
        refine hold_fork ?_ ?_
        · refine' hold_step ?_ ?_ (fun J hJ => ?_)
          rotate_left 1
          · simp only [List.getElem?_toArray, List.getElem?_cons_zero, List.getElem?_cons_succ]; exact rfl
          · exact rfl
          unfold Oper.wp execOp
          go_simp
          obtain ⟨wl, hwl⟩ : ∃ wl, wl = wd.alloc (.cells #[.int .u8 97, .int .u8 98] 5) := ⟨_, rfl⟩
          rw [← hwl]
          have hbl : Below wd.heap.size wd wl := by rw [hwl]; exact K.alloc_below _ _
          have hll : wl.heap[wd.heap.size]? = some (.cells #[.int .u8 97, .int .u8 98] 5 (0, 0)) := by rw [hwl]; exact World.alloc_heap_new _ _
          have hyl : BytesAt wl (some ⟨wd.heap.size, 0, none⟩) 2 2 [97, 98] := by rw [hwl]; exact bytes_lit wd [97, 98] #[.int .u8 97, .int .u8 98] rfl (by decide) (by decide)
          have hBl : Below wr.heap.size wr wl := hBd.trans (hbl.mono hBd.size)
          refine hJ _ _ hBl ?_
          clear hJ J hwl
          try simp only [Act.put, List.setIfInBounds_toArray, List.set_cons_zero, List.set_cons_succ]
          refine hold_fork ?_ ?_
          · refine' hold_step ?_ ?_ (fun J hJ => ?_)
            rotate_left 1
            · simp only [List.getElem?_toArray, List.getElem?_cons_zero, List.getElem?_cons_succ]; exact rfl
            · exact rfl
            refine wp_conv_bytes _ rfl wd.heap.size 2 2 #[.int .u8 97, .int .u8 98] 5 rfl hll ?_
            intro wk hok hck
            have hBk : Below wr.heap.size wr wk := hok.below hBl hBd.size
            have hyk := bytesAt_cells hyl hck (Nat.le_of_eq hok.size.symm)
            refine hJ _ _ hBk ?_
            clear hJ J hok hck
            try simp only [Act.put, List.setIfInBounds_toArray, List.set_cons_zero, List.set_cons_succ]
            refine hold_fork ?_ ?_
            · refine' hold_step ?_ ?_ (fun J hJ => ?_)
              rotate_left 1
              · simp only [List.getElem?_toArray, List.getElem?_cons_zero, List.getElem?_cons_succ]; exact rfl
              · exact rfl
              go_simp
              refine (get_any (BC.out _ (bt (bt (bt H11.out (bt H13.out (bt H14.out (bt H16.out H17.out)))) hB.out) (hBk))).2 hyk (bads_size j HJ.out)).mono ?_
              rintro e w8 ⟨k8, z8, a8, len8, cap8, rfl, _, hb8⟩
              rw [(bads_bad j HJ.out).2]
              have hB8 : Below wr.heap.size wr w8 := hBk.trans (hb8.mono hBk.size)
              have hB8y := bytes_keep hyk hb8
              refine hJ _ _ hB8 ?_
              clear hJ J hb8
              try simp only [Act.put, List.setIfInBounds_toArray, List.set_cons_zero, List.set_cons_succ]
              repeat (first
                  | (refine' hold_skip ?_ ?_ ?_
                     rotate_left 1
                     · simp only [List.getElem?_toArray, List.getElem?_cons_zero, List.getElem?_cons_succ]; exact rfl
                     · exact rfl
                     simp only [Act.put, List.setIfInBounds_toArray, List.set_cons_zero, List.set_cons_succ])
                  | (refine' hold_want ?_ ?_ (fun J hJ => ?_)
                     rotate_left 1
                     · simp only [List.getElem?_toArray, List.getElem?_cons_zero, List.getElem?_cons_succ]; exact rfl
                     · exact rfl
                     first
                     | (refine K.quiet_load_core _ rfl bc 0 _ rfl (fun w' ⟨L, hL⟩ => (BC.out _ (bt (bt (bt H11.out (bt H13.out (bt H14.out (bt H16.out H17.out)))) hB.out) (hL ▸ L.ok : Below wr.heap.size wr w'))).1) ?_; refine hJ _ ?_; clear hJ J; try simp only [Act.put, List.setIfInBounds_toArray, List.set_cons_zero, List.set_cons_succ])
                     | (refine quiet_load_str _ rfl ⟨bs, j, none⟩ _ rfl (fun w' ⟨L, hL⟩ => BS.out _ (bt hB.out (hL ▸ L.ok : Below wr.heap.size wr w')) j HJ.out) ?_; refine hJ _ ?_; clear hJ J; try simp only [Act.put, List.setIfInBounds_toArray, List.set_cons_zero, List.set_cons_succ])
                     | (refine quiet_extract _ _ rfl _ _ rfl rfl ?_; refine hJ _ ?_; clear hJ J; try simp only [Act.put, List.setIfInBounds_toArray, List.set_cons_zero, List.set_cons_succ])
                     | (go_big_quiet_op; refine hJ _ ?_; clear hJ J; try simp only [Act.put, List.setIfInBounds_toArray, List.set_cons_zero, List.set_cons_succ])))
              refine' hold_sole ?_ ?_ (fun J hJ => ?_)
              rotate_left 1
              · simp only [List.getElem?_toArray, List.getElem?_cons_zero, List.getElem?_cons_succ]; exact rfl
              · exact rfl
              unfold Oper.wp execOp
              go_simp
              obtain ⟨wa, hwa⟩ : ∃ wa, wa = w8.alloc (.cells #[.int .i64 0, .int .u8 0, .slice none 0 0] 35) := ⟨_, rfl⟩
              rw [← hwa]
              have hba : Below w8.heap.size w8 wa := by rw [hwa]; exact K.alloc_below _ _
              have hza : ValIn wa w8.heap.size #[.int .i64 0, .int .u8 0, .slice none 0 0] := by rw [hwa]; exact World.alloc_heap_new _ _
              have hBa : Below wr.heap.size wr wa := hB8.trans (hba.mono hB8.size)
              have hBay := bytes_keep hB8y hba
              refine hJ _ _ hBa ?_
              clear hJ J hwa
              try simp only [Act.put, List.setIfInBounds_toArray, List.set_cons_zero, List.set_cons_succ]
              refine' hold_sole ?_ ?_ (fun J hJ => ?_)
              rotate_left 1
              · simp only [List.getElem?_toArray, List.getElem?_cons_zero, List.getElem?_cons_succ]; exact rfl
              · exact rfl
              refine wp_store_val _ _ rfl w8.heap.size _ #[.int .i64 k8, .int .u8 z8, .slice a8 len8 cap8] rfl rfl hza rfl rfl (by simp [Value.oneCell']) ?_
              intro ws hns hos
              have hBs : Below wr.heap.size wr ws := hos.below hBa hB8.size
              refine hJ _ _ hBs ?_
              clear hJ J
              try simp only [Act.put]
              repeat (first
                  | (refine' hold_skip ?_ ?_ ?_
                     rotate_left 1
                     · simp only [List.getElem?_toArray, List.getElem?_cons_zero, List.getElem?_cons_succ]; exact rfl
                     · exact rfl
                     simp only [Act.put, List.setIfInBounds_toArray, List.set_cons_zero, List.set_cons_succ])
                  | (refine' hold_want ?_ ?_ (fun J hJ => ?_)
                     rotate_left 1
                     · simp only [List.getElem?_toArray, List.getElem?_cons_zero, List.getElem?_cons_succ]; exact rfl
                     · exact rfl
                     first
                     | (refine K.quiet_load_core _ rfl bc 0 _ rfl (fun w' ⟨L, hL⟩ => (BC.out _ (bt (bt (bt H11.out (bt H13.out (bt H14.out (bt H16.out H17.out)))) hB.out) (hL ▸ L.ok : Below wr.heap.size wr w'))).1) ?_; refine hJ _ ?_; clear hJ J; try simp only [Act.put, List.setIfInBounds_toArray, List.set_cons_zero, List.set_cons_succ])
                     | (refine quiet_load_str _ rfl ⟨bs, j, none⟩ _ rfl (fun w' ⟨L, hL⟩ => BS.out _ (bt hB.out (hL ▸ L.ok : Below wr.heap.size wr w')) j HJ.out) ?_; refine hJ _ ?_; clear hJ J; try simp only [Act.put, List.setIfInBounds_toArray, List.set_cons_zero, List.set_cons_succ])
                     | (refine quiet_extract _ _ rfl _ _ rfl rfl ?_; refine hJ _ ?_; clear hJ J; try simp only [Act.put, List.setIfInBounds_toArray, List.set_cons_zero, List.set_cons_succ])
                     | (go_big_quiet_op; refine hJ _ ?_; clear hJ J; try simp only [Act.put, List.setIfInBounds_toArray, List.set_cons_zero, List.set_cons_succ])))
              refine hold_done ?_
              refine hMet _ _ (Met.intro (hR _ _ ?_))
              exact ⟨_, _, _, _, _, _, _, _, _, _, _, _, _, ⟨rfl, hBs⟩, rfl⟩

            · refine' hold_step ?_ ?_ (fun J hJ => ?_)
              rotate_left 1
              · simp only [List.getElem?_toArray, List.getElem?_cons_zero, List.getElem?_cons_succ]; exact rfl
              · exact rfl
              unfold Oper.wp execOp
              go_simp
              obtain ⟨wa, hwa⟩ : ∃ wa, wa = wk.alloc (.cells #[.int .i64 0, .int .u8 0, .slice none 0 0] 35) := ⟨_, rfl⟩
              rw [← hwa]
              have hba : Below wk.heap.size wk wa := by rw [hwa]; exact K.alloc_below _ _
              have hza : ValIn wa wk.heap.size #[.int .i64 0, .int .u8 0, .slice none 0 0] := by rw [hwa]; exact World.alloc_heap_new _ _
              have hBa : Below wr.heap.size wr wa := hBk.trans (hba.mono hBk.size)
              have hBay := bytes_keep hyk hba
              refine hJ _ _ hBa ?_
              clear hJ J hwa
              try simp only [Act.put, List.setIfInBounds_toArray, List.set_cons_zero, List.set_cons_succ]
              refine' hold_sole ?_ ?_ (fun J hJ => ?_)
              rotate_left 1
              · simp only [List.getElem?_toArray, List.getElem?_cons_zero, List.getElem?_cons_succ]; exact rfl
              · exact rfl
              go_simp
              refine (get_any (BC.out _ (bt (bt (bt H11.out (bt H13.out (bt H14.out (bt H16.out H17.out)))) hB.out) (hBa))).2 hBay (bads_size j HJ.out)).mono ?_
              rintro e w8 ⟨k8, z8, a8, len8, cap8, rfl, _, hb8⟩
              rw [(bads_bad j HJ.out).2]
              have hB8 : Below wr.heap.size wr w8 := hBa.trans (hb8.mono hBa.size)
              have hB8y := bytes_keep hBay hb8
              have hB8z := val_later hb8 hza
              refine hJ _ _ hB8 ?_
              clear hJ J hb8
              try simp only [Act.put, List.setIfInBounds_toArray, List.set_cons_zero, List.set_cons_succ]
              repeat (first
                  | (refine' hold_skip ?_ ?_ ?_
                     rotate_left 1
                     · simp only [List.getElem?_toArray, List.getElem?_cons_zero, List.getElem?_cons_succ]; exact rfl
                     · exact rfl
                     simp only [Act.put, List.setIfInBounds_toArray, List.set_cons_zero, List.set_cons_succ])
                  | (refine' hold_want ?_ ?_ (fun J hJ => ?_)
                     rotate_left 1
                     · simp only [List.getElem?_toArray, List.getElem?_cons_zero, List.getElem?_cons_succ]; exact rfl
                     · exact rfl
                     first
                     | (refine K.quiet_load_core _ rfl bc 0 _ rfl (fun w' ⟨L, hL⟩ => (BC.out _ (bt (bt (bt H11.out (bt H13.out (bt H14.out (bt H16.out H17.out)))) hB.out) (hL ▸ L.ok : Below wr.heap.size wr w'))).1) ?_; refine hJ _ ?_; clear hJ J; try simp only [Act.put, List.setIfInBounds_toArray, List.set_cons_zero, List.set_cons_succ])
                     | (refine quiet_load_str _ rfl ⟨bs, j, none⟩ _ rfl (fun w' ⟨L, hL⟩ => BS.out _ (bt hB.out (hL ▸ L.ok : Below wr.heap.size wr w')) j HJ.out) ?_; refine hJ _ ?_; clear hJ J; try simp only [Act.put, List.setIfInBounds_toArray, List.set_cons_zero, List.set_cons_succ])
                     | (refine quiet_extract _ _ rfl _ _ rfl rfl ?_; refine hJ _ ?_; clear hJ J; try simp only [Act.put, List.setIfInBounds_toArray, List.set_cons_zero, List.set_cons_succ])
                     | (go_big_quiet_op; refine hJ _ ?_; clear hJ J; try simp only [Act.put, List.setIfInBounds_toArray, List.set_cons_zero, List.set_cons_succ])))
              refine' hold_sole ?_ ?_ (fun J hJ => ?_)
              rotate_left 1
              · simp only [List.getElem?_toArray, List.getElem?_cons_zero, List.getElem?_cons_succ]; exact rfl
              · exact rfl
              refine wp_store_val _ _ rfl wk.heap.size _ #[.int .i64 k8, .int .u8 z8, .slice a8 len8 cap8] rfl rfl hB8z rfl rfl (by simp [Value.oneCell']) ?_
              intro ws hns hos
              have hBs : Below wr.heap.size wr ws := hos.below hB8 hBk.size
              refine hJ _ _ hBs ?_
              clear hJ J
              try simp only [Act.put]
              repeat (first
                  | (refine' hold_skip ?_ ?_ ?_
                     rotate_left 1
                     · simp only [List.getElem?_toArray, List.getElem?_cons_zero, List.getElem?_cons_succ]; exact rfl
                     · exact rfl
                     simp only [Act.put, List.setIfInBounds_toArray, List.set_cons_zero, List.set_cons_succ])
                  | (refine' hold_want ?_ ?_ (fun J hJ => ?_)
                     rotate_left 1
                     · simp only [List.getElem?_toArray, List.getElem?_cons_zero, List.getElem?_cons_succ]; exact rfl
                     · exact rfl
                     first
                     | (refine K.quiet_load_core _ rfl bc 0 _ rfl (fun w' ⟨L, hL⟩ => (BC.out _ (bt (bt (bt H11.out (bt H13.out (bt H14.out (bt H16.out H17.out)))) hB.out) (hL ▸ L.ok : Below wr.heap.size wr w'))).1) ?_; refine hJ _ ?_; clear hJ J; try simp only [Act.put, List.setIfInBounds_toArray, List.set_cons_zero, List.set_cons_succ])
                     | (refine quiet_load_str _ rfl ⟨bs, j, none⟩ _ rfl (fun w' ⟨L, hL⟩ => BS.out _ (bt hB.out (hL ▸ L.ok : Below wr.heap.size wr w')) j HJ.out) ?_; refine hJ _ ?_; clear hJ J; try simp only [Act.put, List.setIfInBounds_toArray, List.set_cons_zero, List.set_cons_succ])
                     | (refine quiet_extract _ _ rfl _ _ rfl rfl ?_; refine hJ _ ?_; clear hJ J; try simp only [Act.put, List.setIfInBounds_toArray, List.set_cons_zero, List.set_cons_succ])
                     | (go_big_quiet_op; refine hJ _ ?_; clear hJ J; try simp only [Act.put, List.setIfInBounds_toArray, List.set_cons_zero, List.set_cons_succ])))
              refine hold_done ?_
              refine hMet _ _ (Met.intro (hR _ _ ?_))
              exact ⟨_, _, _, _, _, _, _, _, _, _, _, _, _, ⟨rfl, hBs⟩, rfl⟩


          · refine' hold_step ?_ ?_ (fun J hJ => ?_)
            rotate_left 1
            · simp only [List.getElem?_toArray, List.getElem?_cons_zero, List.getElem?_cons_succ]; exact rfl
            · exact rfl
            unfold Oper.wp execOp
            go_simp
            obtain ⟨wa, hwa⟩ : ∃ wa, wa = wl.alloc (.cells #[.int .i64 0, .int .u8 0, .slice none 0 0] 35) := ⟨_, rfl⟩
            rw [← hwa]
            have hba : Below wl.heap.size wl wa := by rw [hwa]; exact K.alloc_below _ _
            have hza : ValIn wa wl.heap.size #[.int .i64 0, .int .u8 0, .slice none 0 0] := by rw [hwa]; exact World.alloc_heap_new _ _
            have hBa : Below wr.heap.size wr wa := hBl.trans (hba.mono hBl.size)
            have hBay := bytes_keep hyl hba
            have hBal := (hba.block _ (lt_of_block hll)).trans hll
            have hne : wl.heap.size ≠ wd.heap.size := Nat.ne_of_gt (lt_of_block hll)
            refine hJ _ _ hBa ?_
            clear hJ J hwa
            try simp only [Act.put, List.setIfInBounds_toArray, List.set_cons_zero, List.set_cons_succ]
            refine' hold_sole ?_ ?_ (fun J hJ => ?_)
            rotate_left 1
            · simp only [List.getElem?_toArray, List.getElem?_cons_zero, List.getElem?_cons_succ]; exact rfl
            · exact rfl
            refine wp_conv_bytes _ rfl wd.heap.size 2 2 #[.int .u8 97, .int .u8 98] 5 rfl hBal ?_
            intro wk hok hck
            have hBk : Below wr.heap.size wr wk := hok.below hBa hBd.size
            have hyk := bytesAt_cells hBay hck (Nat.le_of_eq hok.size.symm)
            have hzk : ValIn wk wl.heap.size #[.int .i64 0, .int .u8 0, .slice none 0 0] := (hok.block _ hne).trans hza
            refine hJ _ _ hBk ?_
            clear hJ J hok hck
            try simp only [Act.put, List.setIfInBounds_toArray, List.set_cons_zero, List.set_cons_succ]
            refine' hold_sole ?_ ?_ (fun J hJ => ?_)
            rotate_left 1
            · simp only [List.getElem?_toArray, List.getElem?_cons_zero, List.getElem?_cons_succ]; exact rfl
            · exact rfl
            go_simp
            refine (get_any (BC.out _ (bt (bt (bt H11.out (bt H13.out (bt H14.out (bt H16.out H17.out)))) hB.out) (hBk))).2 hyk (bads_size j HJ.out)).mono ?_
            rintro e w8 ⟨k8, z8, a8, len8, cap8, rfl, _, hb8⟩
            rw [(bads_bad j HJ.out).2]
            have hB8 : Below wr.heap.size wr w8 := hBk.trans (hb8.mono hBk.size)
            have hB8y := bytes_keep hyk hb8
            have hB8z := val_later hb8 hzk
            refine hJ _ _ hB8 ?_
            clear hJ J hb8
            try simp only [Act.put, List.setIfInBounds_toArray, List.set_cons_zero, List.set_cons_succ]
            repeat (first
                | (refine' hold_skip ?_ ?_ ?_
                   rotate_left 1
                   · simp only [List.getElem?_toArray, List.getElem?_cons_zero, List.getElem?_cons_succ]; exact rfl
                   · exact rfl
                   simp only [Act.put, List.setIfInBounds_toArray, List.set_cons_zero, List.set_cons_succ])
                | (refine' hold_want ?_ ?_ (fun J hJ => ?_)
                   rotate_left 1
                   · simp only [List.getElem?_toArray, List.getElem?_cons_zero, List.getElem?_cons_succ]; exact rfl
                   · exact rfl
                   first
                   | (refine K.quiet_load_core _ rfl bc 0 _ rfl (fun w' ⟨L, hL⟩ => (BC.out _ (bt (bt (bt H11.out (bt H13.out (bt H14.out (bt H16.out H17.out)))) hB.out) (hL ▸ L.ok : Below wr.heap.size wr w'))).1) ?_; refine hJ _ ?_; clear hJ J; try simp only [Act.put, List.setIfInBounds_toArray, List.set_cons_zero, List.set_cons_succ])
                   | (refine quiet_load_str _ rfl ⟨bs, j, none⟩ _ rfl (fun w' ⟨L, hL⟩ => BS.out _ (bt hB.out (hL ▸ L.ok : Below wr.heap.size wr w')) j HJ.out) ?_; refine hJ _ ?_; clear hJ J; try simp only [Act.put, List.setIfInBounds_toArray, List.set_cons_zero, List.set_cons_succ])
                   | (refine quiet_extract _ _ rfl _ _ rfl rfl ?_; refine hJ _ ?_; clear hJ J; try simp only [Act.put, List.setIfInBounds_toArray, List.set_cons_zero, List.set_cons_succ])
                   | (go_big_quiet_op; refine hJ _ ?_; clear hJ J; try simp only [Act.put, List.setIfInBounds_toArray, List.set_cons_zero, List.set_cons_succ])))
            refine' hold_sole ?_ ?_ (fun J hJ => ?_)
            rotate_left 1
            · simp only [List.getElem?_toArray, List.getElem?_cons_zero, List.getElem?_cons_succ]; exact rfl
            · exact rfl
            refine wp_store_val _ _ rfl wl.heap.size _ #[.int .i64 k8, .int .u8 z8, .slice a8 len8 cap8] rfl rfl hB8z rfl rfl (by simp [Value.oneCell']) ?_
            intro ws hns hos
            have hBs : Below wr.heap.size wr ws := hos.below hB8 hBl.size
            refine hJ _ _ hBs ?_
            clear hJ J
            try simp only [Act.put]
            repeat (first
                | (refine' hold_skip ?_ ?_ ?_
                   rotate_left 1
                   · simp only [List.getElem?_toArray, List.getElem?_cons_zero, List.getElem?_cons_succ]; exact rfl
                   · exact rfl
                   simp only [Act.put, List.setIfInBounds_toArray, List.set_cons_zero, List.set_cons_succ])
                | (refine' hold_want ?_ ?_ (fun J hJ => ?_)
                   rotate_left 1
                   · simp only [List.getElem?_toArray, List.getElem?_cons_zero, List.getElem?_cons_succ]; exact rfl
                   · exact rfl
                   first
                   | (refine K.quiet_load_core _ rfl bc 0 _ rfl (fun w' ⟨L, hL⟩ => (BC.out _ (bt (bt (bt H11.out (bt H13.out (bt H14.out (bt H16.out H17.out)))) hB.out) (hL ▸ L.ok : Below wr.heap.size wr w'))).1) ?_; refine hJ _ ?_; clear hJ J; try simp only [Act.put, List.setIfInBounds_toArray, List.set_cons_zero, List.set_cons_succ])
                   | (refine quiet_load_str _ rfl ⟨bs, j, none⟩ _ rfl (fun w' ⟨L, hL⟩ => BS.out _ (bt hB.out (hL ▸ L.ok : Below wr.heap.size wr w')) j HJ.out) ?_; refine hJ _ ?_; clear hJ J; try simp only [Act.put, List.setIfInBounds_toArray, List.set_cons_zero, List.set_cons_succ])
                   | (refine quiet_extract _ _ rfl _ _ rfl rfl ?_; refine hJ _ ?_; clear hJ J; try simp only [Act.put, List.setIfInBounds_toArray, List.set_cons_zero, List.set_cons_succ])
                   | (go_big_quiet_op; refine hJ _ ?_; clear hJ J; try simp only [Act.put, List.setIfInBounds_toArray, List.set_cons_zero, List.set_cons_succ])))
            refine hold_done ?_
            refine hMet _ _ (Met.intro (hR _ _ ?_))
            exact ⟨_, _, _, _, _, _, _, _, _, _, _, _, _, ⟨rfl, hBs⟩, rfl⟩


        · refine' hold_step ?_ ?_ (fun J hJ => ?_)
          rotate_left 1
          · simp only [List.getElem?_toArray, List.getElem?_cons_zero, List.getElem?_cons_succ]; exact rfl
          · exact rfl
          unfold Oper.wp execOp
          go_simp
          obtain ⟨wa, hwa⟩ : ∃ wa, wa = wd.alloc (.cells #[.int .i64 0, .int .u8 0, .slice none 0 0] 35) := ⟨_, rfl⟩
          rw [← hwa]
          have hba : Below wd.heap.size wd wa := by rw [hwa]; exact K.alloc_below _ _
          have hza : ValIn wa wd.heap.size #[.int .i64 0, .int .u8 0, .slice none 0 0] := by rw [hwa]; exact World.alloc_heap_new _ _
          have hBa : Below wr.heap.size wr wa := hBd.trans (hba.mono hBd.size)
          refine hJ _ _ hBa ?_
          clear hJ J hwa
          try simp only [Act.put, List.setIfInBounds_toArray, List.set_cons_zero, List.set_cons_succ]
          refine' hold_sole ?_ ?_ (fun J hJ => ?_)
          rotate_left 1
          · simp only [List.getElem?_toArray, List.getElem?_cons_zero, List.getElem?_cons_succ]; exact rfl
          · exact rfl
          unfold Oper.wp execOp
          go_simp
          obtain ⟨wl, hwl⟩ : ∃ wl, wl = wa.alloc (.cells #[.int .u8 97, .int .u8 98] 5) := ⟨_, rfl⟩
          rw [← hwl]
          have hbl : Below wa.heap.size wa wl := by rw [hwl]; exact K.alloc_below _ _
          have hll : wl.heap[wa.heap.size]? = some (.cells #[.int .u8 97, .int .u8 98] 5 (0, 0)) := by rw [hwl]; exact World.alloc_heap_new _ _
          have hyl : BytesAt wl (some ⟨wa.heap.size, 0, none⟩) 2 2 [97, 98] := by rw [hwl]; exact bytes_lit wa [97, 98] #[.int .u8 97, .int .u8 98] rfl (by decide) (by decide)
          have hBl : Below wr.heap.size wr wl := hBa.trans (hbl.mono hBa.size)
          have hBlz := val_later hbl hza
          have hne : wd.heap.size ≠ wa.heap.size := Nat.ne_of_lt (lt_of_block hza)
          refine hJ _ _ hBl ?_
          clear hJ J hwl
          try simp only [Act.put, List.setIfInBounds_toArray, List.set_cons_zero, List.set_cons_succ]
          refine' hold_sole ?_ ?_ (fun J hJ => ?_)
          rotate_left 1
          · simp only [List.getElem?_toArray, List.getElem?_cons_zero, List.getElem?_cons_succ]; exact rfl
          · exact rfl
          refine wp_conv_bytes _ rfl wa.heap.size 2 2 #[.int .u8 97, .int .u8 98] 5 rfl hll ?_
          intro wk hok hck
          have hBk : Below wr.heap.size wr wk := hok.below hBl hBa.size
          have hyk := bytesAt_cells hyl hck (Nat.le_of_eq hok.size.symm)
          have hzk : ValIn wk wd.heap.size #[.int .i64 0, .int .u8 0, .slice none 0 0] := (hok.block _ hne).trans hBlz
          refine hJ _ _ hBk ?_
          clear hJ J hok hck
          try simp only [Act.put, List.setIfInBounds_toArray, List.set_cons_zero, List.set_cons_succ]
          refine' hold_sole ?_ ?_ (fun J hJ => ?_)
          rotate_left 1
          · simp only [List.getElem?_toArray, List.getElem?_cons_zero, List.getElem?_cons_succ]; exact rfl
          · exact rfl
          go_simp
          refine (get_any (BC.out _ (bt (bt (bt H11.out (bt H13.out (bt H14.out (bt H16.out H17.out)))) hB.out) (hBk))).2 hyk (bads_size j HJ.out)).mono ?_
          rintro e w8 ⟨k8, z8, a8, len8, cap8, rfl, _, hb8⟩
          rw [(bads_bad j HJ.out).2]
          have hB8 : Below wr.heap.size wr w8 := hBk.trans (hb8.mono hBk.size)
          have hB8y := bytes_keep hyk hb8
          have hB8z := val_later hb8 hzk
          refine hJ _ _ hB8 ?_
          clear hJ J hb8
          try simp only [Act.put, List.setIfInBounds_toArray, List.set_cons_zero, List.set_cons_succ]
          repeat (first
              | (refine' hold_skip ?_ ?_ ?_
                 rotate_left 1
                 · simp only [List.getElem?_toArray, List.getElem?_cons_zero, List.getElem?_cons_succ]; exact rfl
                 · exact rfl
                 simp only [Act.put, List.setIfInBounds_toArray, List.set_cons_zero, List.set_cons_succ])
              | (refine' hold_want ?_ ?_ (fun J hJ => ?_)
                 rotate_left 1
                 · simp only [List.getElem?_toArray, List.getElem?_cons_zero, List.getElem?_cons_succ]; exact rfl
                 · exact rfl
                 first
                 | (refine K.quiet_load_core _ rfl bc 0 _ rfl (fun w' ⟨L, hL⟩ => (BC.out _ (bt (bt (bt H11.out (bt H13.out (bt H14.out (bt H16.out H17.out)))) hB.out) (hL ▸ L.ok : Below wr.heap.size wr w'))).1) ?_; refine hJ _ ?_; clear hJ J; try simp only [Act.put, List.setIfInBounds_toArray, List.set_cons_zero, List.set_cons_succ])
                 | (refine quiet_load_str _ rfl ⟨bs, j, none⟩ _ rfl (fun w' ⟨L, hL⟩ => BS.out _ (bt hB.out (hL ▸ L.ok : Below wr.heap.size wr w')) j HJ.out) ?_; refine hJ _ ?_; clear hJ J; try simp only [Act.put, List.setIfInBounds_toArray, List.set_cons_zero, List.set_cons_succ])
                 | (refine quiet_extract _ _ rfl _ _ rfl rfl ?_; refine hJ _ ?_; clear hJ J; try simp only [Act.put, List.setIfInBounds_toArray, List.set_cons_zero, List.set_cons_succ])
                 | (go_big_quiet_op; refine hJ _ ?_; clear hJ J; try simp only [Act.put, List.setIfInBounds_toArray, List.set_cons_zero, List.set_cons_succ])))
          refine' hold_sole ?_ ?_ (fun J hJ => ?_)
          rotate_left 1
          · simp only [List.getElem?_toArray, List.getElem?_cons_zero, List.getElem?_cons_succ]; exact rfl
          · exact rfl
          refine wp_store_val _ _ rfl wd.heap.size _ #[.int .i64 k8, .int .u8 z8, .slice a8 len8 cap8] rfl rfl hB8z rfl rfl (by simp [Value.oneCell']) ?_
          intro ws hns hos
          have hBs : Below wr.heap.size wr ws := hos.below hB8 hBd.size
          refine hJ _ _ hBs ?_
          clear hJ J
          try simp only [Act.put]
          repeat (first
              | (refine' hold_skip ?_ ?_ ?_
                 rotate_left 1
                 · simp only [List.getElem?_toArray, List.getElem?_cons_zero, List.getElem?_cons_succ]; exact rfl
                 · exact rfl
                 simp only [Act.put, List.setIfInBounds_toArray, List.set_cons_zero, List.set_cons_succ])
              | (refine' hold_want ?_ ?_ (fun J hJ => ?_)
                 rotate_left 1
                 · simp only [List.getElem?_toArray, List.getElem?_cons_zero, List.getElem?_cons_succ]; exact rfl
                 · exact rfl
                 first
                 | (refine K.quiet_load_core _ rfl bc 0 _ rfl (fun w' ⟨L, hL⟩ => (BC.out _ (bt (bt (bt H11.out (bt H13.out (bt H14.out (bt H16.out H17.out)))) hB.out) (hL ▸ L.ok : Below wr.heap.size wr w'))).1) ?_; refine hJ _ ?_; clear hJ J; try simp only [Act.put, List.setIfInBounds_toArray, List.set_cons_zero, List.set_cons_succ])
                 | (refine quiet_load_str _ rfl ⟨bs, j, none⟩ _ rfl (fun w' ⟨L, hL⟩ => BS.out _ (bt hB.out (hL ▸ L.ok : Below wr.heap.size wr w')) j HJ.out) ?_; refine hJ _ ?_; clear hJ J; try simp only [Act.put, List.setIfInBounds_toArray, List.set_cons_zero, List.set_cons_succ])
                 | (refine quiet_extract _ _ rfl _ _ rfl rfl ?_; refine hJ _ ?_; clear hJ J; try simp only [Act.put, List.setIfInBounds_toArray, List.set_cons_zero, List.set_cons_succ])
                 | (go_big_quiet_op; refine hJ _ ?_; clear hJ J; try simp only [Act.put, List.setIfInBounds_toArray, List.set_cons_zero, List.set_cons_succ])))
          refine hold_done ?_
          refine hMet _ _ (Met.intro (hR _ _ ?_))
          exact ⟨_, _, _, _, _, _, _, _, _, _, _, _, _, ⟨rfl, hBs⟩, rfl⟩


      case rest =>
        obtain ⟨rfl, hBc⟩ := hcut
        have Hend := Lib.hid (bt hB.out hBc)
        clear hBc
        go_wp2_with fail
        go_roundw
        case rel => exact ⟨j + 1, by go_num, by omega, Hend⟩
        case measure => simp [intOf]; omega
    · obtain rfl : j = 9 := by omega
      have Hwr := hB
      go_wp2_with (first
        | (refine K.wpList_load_core rfl _ rfl bc 0 _ rfl (BC.out _ (bt H11.out (bt H13.out (bt H14.out (bt H16.out (bt H17.out Hwr.out)))))).1 ?_)
        | (refine wpList_conv_bytes rfl _ rfl wr.heap.size 3 3 #[.int .u8 97, .int .u8 98, .int .u8 99] 5 rfl (World.alloc_heap_new wr _) ?_; intro w18 ho hc; have HO := Lib.hid (And.intro ho hc); clear ho hc)
        | fail)
      have hal18 : Below wr.heap.size wr w18 := HO.out.1.below (K.alloc_below wr _) (Nat.le_refl _)
      have hby : BytesAt w18 (some ⟨wr.heap.size, 0, none⟩) 3 3 [97, 98, 99] := bytesAt_cells (bytes_lit wr [97, 98, 99] #[.int .u8 97, .int .u8 98, .int .u8 99] rfl (by decide) (by decide)) HO.out.2 (by rw [HO.out.1.size]; exact Nat.le_refl _)
      have H18 := Lib.hid hal18
      clear hal18 HO
      have hget := get_eq (t := (⟨#[48, 48, 48, 49, 48, 49]⟩ : ByteArray)) (v := kval) (b := 0) (K.Cr.at_below H18.out (Nat.le_refl _) _ _ (BC.out _ (bt H11.out (bt H13.out (bt H14.out (bt H16.out (bt H17.out Hwr.out)))))).2) hby (by decide) (by decide +kernel)
      have Hget := Lib.hid hget
      clear hget hby
      refine Hget.out.mono ?_
      rintro e w19 ⟨k19, z19, a19, len19, cap19, rfl, hv, hb'⟩
      obtain ⟨w20, hw20⟩ : ∃ w20, w20 = w19.alloc (.cells #[.int .i64 k19, .int .u8 z19, .slice a19 len19 cap19] 35) := ⟨_, rfl⟩
      have hal : Below w19.heap.size w19 w20 := by rw [hw20]; exact K.alloc_below _ _
      have h3 : Val3 w20 w19.heap.size 0 [.int .i64 k19, .int .u8 z19, .slice a19 len19 cap19] := val3_in (by rw [hw20]; exact World.alloc_heap_new _ _) rfl
      have hvv := Vl.at_below hal (Nat.le_refl _) _ _ hv
      obtain ⟨b19, hb19⟩ : ∃ b19, b19 = w19.heap.size := ⟨_, rfl⟩
      rw [← hb19] at h3
      have B19 := Lib.hid (fun (w' : World) (h : Below w20.heap.size w20 w') => And.intro (h3.below h3.lt h) (Vl.at_below h (Nat.le_refl _) _ _ hvv))
      have H20 := Lib.hid (bt hb' hal)
      clear hb' hv
      go_upto_region 14 with fail
      rw [← hw20, ← hb19]
      clear hw20 hal h3 hvv hb19 Hget
      go_wp2_with (first
        | (refine K.wpList_load_core rfl _ rfl bc 0 _ rfl (BC.out _ (bt H11.out (bt H13.out (bt H14.out (bt H16.out (bt H17.out (bt Hwr.out (bt H18.out H20.out)))))))).1 ?_)
        | fail)
      have hby := bytes_nil w20
      have hget := get_eq (t := (⟨#[49]⟩ : ByteArray)) (v := (Vl.mk 6 0 [])) (b := 0) (BC.out _ (bt H11.out (bt H13.out (bt H14.out (bt H16.out (bt H17.out (bt Hwr.out (bt H18.out H20.out)))))))).2 hby (by decide) (by decide +kernel)
      have Hget := Lib.hid hget
      clear hget hby
      refine Hget.out.mono ?_
      rintro e w22 ⟨k22, z22, a22, len22, cap22, rfl, hv, hb'⟩
      obtain ⟨w23, hw23⟩ : ∃ w23, w23 = w22.alloc (.cells #[.int .i64 k22, .int .u8 z22, .slice a22 len22 cap22] 35) := ⟨_, rfl⟩
      have hal : Below w22.heap.size w22 w23 := by rw [hw23]; exact K.alloc_below _ _
      have h3 : Val3 w23 w22.heap.size 0 [.int .i64 k22, .int .u8 z22, .slice a22 len22 cap22] := val3_in (by rw [hw23]; exact World.alloc_heap_new _ _) rfl
      have hvv := Vl.at_below hal (Nat.le_refl _) _ _ hv
      obtain ⟨b22, hb22⟩ : ∃ b22, b22 = w22.heap.size := ⟨_, rfl⟩
      rw [← hb22] at h3
      have B22 := Lib.hid (fun (w' : World) (h : Below w23.heap.size w23 w') => And.intro (h3.below h3.lt h) (Vl.at_below h (Nat.le_refl _) _ _ hvv))
      have H23 := Lib.hid (bt hb' hal)
      clear hb' hv
      go_upto_region 15 with fail
      rw [← hw23, ← hb22]
      clear hw23 hal h3 hvv hb22 Hget
      go_wp2_with fail
      refine (K.eps_walk w23).mono ?_
      rintro e w24 ⟨z24, rfl, hat24, hb'⟩
      obtain ⟨k24, s24, n24, a24, len24, cap24, rfl⟩ := K.at_lit hat24
      have H24 := Lib.hid hb'
      have A24 := Lib.hid hat24
      clear hb' hat24
      go_wp2_with fail
      refine (K.star_walk A24.out).mono ?_
      rintro e w25 ⟨z25, rfl, hat25, hb'⟩
      obtain ⟨k25, s25, n25, a25, len25, cap25, rfl⟩ := K.at_lit hat25
      have H25 := Lib.hid hb'
      have A25 := Lib.hid hat25
      clear hb' hat25
      go_wp2_with (first
        | fail)
      have hby := bytes_nil w25
      have hget := get_eq (t := (⟨#[48, 49]⟩ : ByteArray)) (v := v0) (b := 7) A25.out hby (by decide) (by decide +kernel)
      have Hget := Lib.hid hget
      clear hget hby
      refine Hget.out.mono ?_
      rintro e w27 ⟨k27, z27, a27, len27, cap27, rfl, hv, hb'⟩
      obtain ⟨w28, hw28⟩ : ∃ w28, w28 = w27.alloc (.cells #[.int .i64 k27, .int .u8 z27, .slice a27 len27 cap27] 35) := ⟨_, rfl⟩
      have hal : Below w27.heap.size w27 w28 := by rw [hw28]; exact K.alloc_below _ _
      have h3 : Val3 w28 w27.heap.size 0 [.int .i64 k27, .int .u8 z27, .slice a27 len27 cap27] := val3_in (by rw [hw28]; exact World.alloc_heap_new _ _) rfl
      have hvv := Vl.at_below hal (Nat.le_refl _) _ _ hv
      obtain ⟨b27, hb27⟩ : ∃ b27, b27 = w27.heap.size := ⟨_, rfl⟩
      rw [← hb27] at h3
      have B27 := Lib.hid (fun (w' : World) (h : Below w28.heap.size w28 w') => And.intro (h3.below h3.lt h) (Vl.at_below h (Nat.le_refl _) _ _ hvv))
      have H28 := Lib.hid (bt hb' hal)
      clear hb' hv
      go_upto_region 16 with fail
      rw [← hw28, ← hb27]
      clear hw28 hal h3 hvv hb27 Hget
      go_wp2_with (first
        | fail)
      have hby := bytes_nil w28
      have hget := get_eq (t := (⟨#[]⟩ : ByteArray)) (v := v0) (b := 7) (at_zeroC w28 0 rfl) hby (by decide) (by decide +kernel)
      have Hget := Lib.hid hget
      clear hget hby
      refine Hget.out.mono ?_
      rintro e w30 ⟨k30, z30, a30, len30, cap30, rfl, hv, hb'⟩
      obtain ⟨w31, hw31⟩ : ∃ w31, w31 = w30.alloc (.cells #[.int .i64 k30, .int .u8 z30, .slice a30 len30 cap30] 35) := ⟨_, rfl⟩
      have hal : Below w30.heap.size w30 w31 := by rw [hw31]; exact K.alloc_below _ _
      have h3 : Val3 w31 w30.heap.size 0 [.int .i64 k30, .int .u8 z30, .slice a30 len30 cap30] := val3_in (by rw [hw31]; exact World.alloc_heap_new _ _) rfl
      have hvv := Vl.at_below hal (Nat.le_refl _) _ _ hv
      obtain ⟨b30, hb30⟩ : ∃ b30, b30 = w30.heap.size := ⟨_, rfl⟩
      rw [← hb30] at h3
      have B30 := Lib.hid (fun (w' : World) (h : Below w31.heap.size w31 w') => And.intro (h3.below h3.lt h) (Vl.at_below h (Nat.le_refl _) _ _ hvv))
      have H31 := Lib.hid (bt hb' hal)
      clear hb' hv
      go_upto_region 17 with fail
      rw [← hw31, ← hb30]
      clear hw31 hal h3 hvv hb30 Hget
      go_wp2_with (first
        | fail)
      have hby := bytes_nil w31
      have hget := get_eq (t := (⟨#[]⟩ : ByteArray)) (v := v0) (b := 1) (at_zeroC w31 9 rfl) hby (by decide) (by decide +kernel)
      have Hget := Lib.hid hget
      clear hget hby
      refine Hget.out.mono ?_
      rintro e w33 ⟨k33, z33, a33, len33, cap33, rfl, hv, hb'⟩
      obtain ⟨w34, hw34⟩ : ∃ w34, w34 = w33.alloc (.cells #[.int .i64 k33, .int .u8 z33, .slice a33 len33 cap33] 35) := ⟨_, rfl⟩
      have hal : Below w33.heap.size w33 w34 := by rw [hw34]; exact K.alloc_below _ _
      have h3 : Val3 w34 w33.heap.size 0 [.int .i64 k33, .int .u8 z33, .slice a33 len33 cap33] := val3_in (by rw [hw34]; exact World.alloc_heap_new _ _) rfl
      have hvv := Vl.at_below hal (Nat.le_refl _) _ _ hv
      obtain ⟨b33, hb33⟩ : ∃ b33, b33 = w33.heap.size := ⟨_, rfl⟩
      rw [← hb33] at h3
      have B33 := Lib.hid (fun (w' : World) (h : Below w34.heap.size w34 w') => And.intro (h3.below h3.lt h) (Vl.at_below h (Nat.le_refl _) _ _ hvv))
      have H34 := Lib.hid (bt hb' hal)
      clear hb' hv
      go_upto_region 18 with fail
      rw [← hw34, ← hb33]
      clear hw34 hal h3 hvv hb33 Hget
      go_cut [20, 21] from 99 to 104 (fun _ v21 wx => v21 = .int .i64 1 ∧ Below w34.heap.size w34 wx)
      case first =>
        rename_i J0 K' hR hMet
        obtain ⟨wd, hwd⟩ : ∃ wd, wd = w34.drew := ⟨_, rfl⟩
        have hBd : Below w34.heap.size w34 wd := by rw [hwd]; exact (Below.refl _ _).drew
        have hNE := HeldW.nonempty (S := fun w' => Below w34.heap.size w34 w') hBd
        refine wp_region_hold (fun w' => Below w34.heap.size w34 w') (.plain 0 (.fork 1 (.fork 2 (.plain 3 (.plain 4 (.plain 5 (.sole 6 (.sole 7 (.plain 8 .done)))))) 6 (.sole 2 (.plain 3 (.plain 4 (.plain 5 (.sole 7 (.plain 8 .done))))))) 6 (.sole 1 (.sole 2 (.plain 3 (.plain 4 (.plain 5 (.sole 7 (.plain 8 .done))))))))) (by rw [← hwd]; exact hBd) (by kernel_rfl) (by kernel_rfl) (fun c a d v w h => by cases d <;> exact h) ?_
        rw [← hwd]
        clear hwd
        repeat (first
            | (refine' hold_skip ?_ ?_ ?_
               rotate_left 1
               · simp only [List.getElem?_toArray, List.getElem?_cons_zero]; exact rfl
               · exact rfl
               simp only [Act.put, List.setIfInBounds_toArray, List.set_cons_zero, List.set_cons_succ])
            | (refine' hold_want ?_ ?_ (fun J hJ => ?_)
               rotate_left 1
               · simp only [List.getElem?_toArray, List.getElem?_cons_zero]; exact rfl
               · exact rfl
               first
               | (refine K.quiet_load_core _ rfl bc 0 _ rfl (fun w' ⟨L, hL⟩ => (BC.out _ (bt (bt H11.out (bt H13.out (bt H14.out (bt H16.out (bt H17.out (bt Hwr.out (bt H18.out (bt H20.out (bt H23.out (bt H24.out (bt H25.out (bt H28.out (bt H31.out H34.out))))))))))))) (hL ▸ L.ok : Below w34.heap.size w34 w'))).1) ?_; refine hJ _ ?_; clear hJ J; try simp only [Act.put, List.setIfInBounds_toArray, List.set_cons_zero, List.set_cons_succ])
               | (refine quiet_extract _ _ rfl _ _ rfl rfl ?_; refine hJ _ ?_; clear hJ J; try simp only [Act.put, List.setIfInBounds_toArray, List.set_cons_zero, List.set_cons_succ])
               | (go_big_quiet_op; refine hJ _ ?_; clear hJ J; try simp only [Act.put, List.setIfInBounds_toArray, List.set_cons_zero, List.set_cons_succ])))
        refine hold_fork ?_ ?_
        · refine' hold_step ?_ ?_ (fun J hJ => ?_)
          rotate_left 1
          · simp only [List.getElem?_toArray, List.getElem?_cons_zero, List.getElem?_cons_succ]; exact rfl
          · exact rfl
          refine wp_make_u8 _ _ rfl 257 rfl rfl (by decide) ?_
          intro wl hyl hbl
          have hBl : Below w34.heap.size w34 wl := hBd.trans (hbl.mono hBd.size)
          refine hJ _ _ hBl ?_
          clear hJ J hbl
          try simp only [Act.put, List.setIfInBounds_toArray, List.set_cons_zero, List.set_cons_succ]
          refine hold_fork ?_ ?_
          · refine' hold_step ?_ ?_ (fun J hJ => ?_)
            rotate_left 1
            · simp only [List.getElem?_toArray, List.getElem?_cons_zero, List.getElem?_cons_succ]; exact rfl
            · exact rfl
            go_simp
            refine (get_any (t := ⟨#[49]⟩) (BC.out _ (bt (bt H11.out (bt H13.out (bt H14.out (bt H16.out (bt H17.out (bt Hwr.out (bt H18.out (bt H20.out (bt H23.out (bt H24.out (bt H25.out (bt H28.out (bt H31.out H34.out))))))))))))) (hBl))).2 hyl (by decide)).mono ?_
            rintro e w8 ⟨k8, z8, a8, len8, cap8, rfl, _, hb8⟩
            rw [resG_many]
            have hB8 : Below w34.heap.size w34 w8 := hBl.trans (hb8.mono hBl.size)
            have hB8y := bytes_keep hyl hb8
            refine hJ _ _ hB8 ?_
            clear hJ J hb8
            try simp only []
            repeat (first
                | (refine' hold_skip ?_ ?_ ?_
                   rotate_left 1
                   · simp only [List.getElem?_toArray, List.getElem?_cons_zero, List.getElem?_cons_succ]; exact rfl
                   · exact rfl
                   simp only [Act.put, List.setIfInBounds_toArray, List.set_cons_zero, List.set_cons_succ])
                | (refine' hold_want ?_ ?_ (fun J hJ => ?_)
                   rotate_left 1
                   · simp only [List.getElem?_toArray, List.getElem?_cons_zero, List.getElem?_cons_succ]; exact rfl
                   · exact rfl
                   first
                   | (refine K.quiet_load_core _ rfl bc 0 _ rfl (fun w' ⟨L, hL⟩ => (BC.out _ (bt (bt H11.out (bt H13.out (bt H14.out (bt H16.out (bt H17.out (bt Hwr.out (bt H18.out (bt H20.out (bt H23.out (bt H24.out (bt H25.out (bt H28.out (bt H31.out H34.out))))))))))))) (hL ▸ L.ok : Below w34.heap.size w34 w'))).1) ?_; refine hJ _ ?_; clear hJ J; try simp only [Act.put, List.setIfInBounds_toArray, List.set_cons_zero, List.set_cons_succ])
                   | (refine quiet_extract _ _ rfl _ _ rfl rfl ?_; refine hJ _ ?_; clear hJ J; try simp only [Act.put, List.setIfInBounds_toArray, List.set_cons_zero, List.set_cons_succ])
                   | (go_big_quiet_op; refine hJ _ ?_; clear hJ J; try simp only [Act.put, List.setIfInBounds_toArray, List.set_cons_zero, List.set_cons_succ])))
            refine' hold_sole ?_ ?_ (fun J hJ => ?_)
            rotate_left 1
            · simp only [List.getElem?_toArray, List.getElem?_cons_zero, List.getElem?_cons_succ]; exact rfl
            · exact rfl
            unfold Oper.wp execOp
            go_simp
            obtain ⟨wa, hwa⟩ : ∃ wa, wa = w8.alloc (.cells #[.int .i64 0, .int .u8 0, .slice none 0 0] 35) := ⟨_, rfl⟩
            rw [← hwa]
            have hba : Below w8.heap.size w8 wa := by rw [hwa]; exact K.alloc_below _ _
            have hza : ValIn wa w8.heap.size #[.int .i64 0, .int .u8 0, .slice none 0 0] := by rw [hwa]; exact World.alloc_heap_new _ _
            have hBa : Below w34.heap.size w34 wa := hB8.trans (hba.mono hB8.size)
            have hBay := bytes_keep hB8y hba
            refine hJ _ _ hBa ?_
            clear hJ J hwa
            try simp only [Act.put, List.setIfInBounds_toArray, List.set_cons_zero, List.set_cons_succ]
            refine' hold_sole ?_ ?_ (fun J hJ => ?_)
            rotate_left 1
            · simp only [List.getElem?_toArray, List.getElem?_cons_zero, List.getElem?_cons_succ]; exact rfl
            · exact rfl
            refine wp_store_val _ _ rfl w8.heap.size _ #[.int .i64 k8, .int .u8 z8, .slice a8 len8 cap8] rfl rfl hza rfl rfl (by simp [Value.oneCell']) ?_
            intro ws hns hos
            have hBs : Below w34.heap.size w34 ws := hos.below hBa hB8.size
            refine hJ _ _ hBs ?_
            clear hJ J
            try simp only [Act.put]
            repeat (first
                | (refine' hold_skip ?_ ?_ ?_
                   rotate_left 1
                   · simp only [List.getElem?_toArray, List.getElem?_cons_zero, List.getElem?_cons_succ]; exact rfl
                   · exact rfl
                   simp only [Act.put, List.setIfInBounds_toArray, List.set_cons_zero, List.set_cons_succ])
                | (refine' hold_want ?_ ?_ (fun J hJ => ?_)
                   rotate_left 1
                   · simp only [List.getElem?_toArray, List.getElem?_cons_zero, List.getElem?_cons_succ]; exact rfl
                   · exact rfl
                   first
                   | (refine K.quiet_load_core _ rfl bc 0 _ rfl (fun w' ⟨L, hL⟩ => (BC.out _ (bt (bt H11.out (bt H13.out (bt H14.out (bt H16.out (bt H17.out (bt Hwr.out (bt H18.out (bt H20.out (bt H23.out (bt H24.out (bt H25.out (bt H28.out (bt H31.out H34.out))))))))))))) (hL ▸ L.ok : Below w34.heap.size w34 w'))).1) ?_; refine hJ _ ?_; clear hJ J; try simp only [Act.put, List.setIfInBounds_toArray, List.set_cons_zero, List.set_cons_succ])
                   | (refine quiet_extract _ _ rfl _ _ rfl rfl ?_; refine hJ _ ?_; clear hJ J; try simp only [Act.put, List.setIfInBounds_toArray, List.set_cons_zero, List.set_cons_succ])
                   | (go_big_quiet_op; refine hJ _ ?_; clear hJ J; try simp only [Act.put, List.setIfInBounds_toArray, List.set_cons_zero, List.set_cons_succ])))
            refine hold_done ?_
            refine hMet _ _ (Met.intro (hR _ _ ?_))
            exact ⟨_, _, _, _, _, _, _, _, ⟨rfl, hBs⟩, rfl⟩

          · refine' hold_step ?_ ?_ (fun J hJ => ?_)
            rotate_left 1
            · simp only [List.getElem?_toArray, List.getElem?_cons_zero, List.getElem?_cons_succ]; exact rfl
            · exact rfl
            unfold Oper.wp execOp
            go_simp
            obtain ⟨wa, hwa⟩ : ∃ wa, wa = wl.alloc (.cells #[.int .i64 0, .int .u8 0, .slice none 0 0] 35) := ⟨_, rfl⟩
            rw [← hwa]
            have hba : Below wl.heap.size wl wa := by rw [hwa]; exact K.alloc_below _ _
            have hza : ValIn wa wl.heap.size #[.int .i64 0, .int .u8 0, .slice none 0 0] := by rw [hwa]; exact World.alloc_heap_new _ _
            have hBa : Below w34.heap.size w34 wa := hBl.trans (hba.mono hBl.size)
            have hBay := bytes_keep hyl hba
            refine hJ _ _ hBa ?_
            clear hJ J hwa
            try simp only [Act.put, List.setIfInBounds_toArray, List.set_cons_zero, List.set_cons_succ]
            refine' hold_sole ?_ ?_ (fun J hJ => ?_)
            rotate_left 1
            · simp only [List.getElem?_toArray, List.getElem?_cons_zero, List.getElem?_cons_succ]; exact rfl
            · exact rfl
            go_simp
            refine (get_any (t := ⟨#[49]⟩) (BC.out _ (bt (bt H11.out (bt H13.out (bt H14.out (bt H16.out (bt H17.out (bt Hwr.out (bt H18.out (bt H20.out (bt H23.out (bt H24.out (bt H25.out (bt H28.out (bt H31.out H34.out))))))))))))) (hBa))).2 hBay (by decide)).mono ?_
            rintro e w8 ⟨k8, z8, a8, len8, cap8, rfl, _, hb8⟩
            rw [resG_many]
            have hB8 : Below w34.heap.size w34 w8 := hBa.trans (hb8.mono hBa.size)
            have hB8y := bytes_keep hBay hb8
            have hB8z := val_later hb8 hza
            refine hJ _ _ hB8 ?_
            clear hJ J hb8
            try simp only []
            repeat (first
                | (refine' hold_skip ?_ ?_ ?_
                   rotate_left 1
                   · simp only [List.getElem?_toArray, List.getElem?_cons_zero, List.getElem?_cons_succ]; exact rfl
                   · exact rfl
                   simp only [Act.put, List.setIfInBounds_toArray, List.set_cons_zero, List.set_cons_succ])
                | (refine' hold_want ?_ ?_ (fun J hJ => ?_)
                   rotate_left 1
                   · simp only [List.getElem?_toArray, List.getElem?_cons_zero, List.getElem?_cons_succ]; exact rfl
                   · exact rfl
                   first
                   | (refine K.quiet_load_core _ rfl bc 0 _ rfl (fun w' ⟨L, hL⟩ => (BC.out _ (bt (bt H11.out (bt H13.out (bt H14.out (bt H16.out (bt H17.out (bt Hwr.out (bt H18.out (bt H20.out (bt H23.out (bt H24.out (bt H25.out (bt H28.out (bt H31.out H34.out))))))))))))) (hL ▸ L.ok : Below w34.heap.size w34 w'))).1) ?_; refine hJ _ ?_; clear hJ J; try simp only [Act.put, List.setIfInBounds_toArray, List.set_cons_zero, List.set_cons_succ])
                   | (refine quiet_extract _ _ rfl _ _ rfl rfl ?_; refine hJ _ ?_; clear hJ J; try simp only [Act.put, List.setIfInBounds_toArray, List.set_cons_zero, List.set_cons_succ])
                   | (go_big_quiet_op; refine hJ _ ?_; clear hJ J; try simp only [Act.put, List.setIfInBounds_toArray, List.set_cons_zero, List.set_cons_succ])))
            refine' hold_sole ?_ ?_ (fun J hJ => ?_)
            rotate_left 1
            · simp only [List.getElem?_toArray, List.getElem?_cons_zero, List.getElem?_cons_succ]; exact rfl
            · exact rfl
            refine wp_store_val _ _ rfl wl.heap.size _ #[.int .i64 k8, .int .u8 z8, .slice a8 len8 cap8] rfl rfl hB8z rfl rfl (by simp [Value.oneCell']) ?_
            intro ws hns hos
            have hBs : Below w34.heap.size w34 ws := hos.below hB8 hBl.size
            refine hJ _ _ hBs ?_
            clear hJ J
            try simp only [Act.put]
            repeat (first
                | (refine' hold_skip ?_ ?_ ?_
                   rotate_left 1
                   · simp only [List.getElem?_toArray, List.getElem?_cons_zero, List.getElem?_cons_succ]; exact rfl
                   · exact rfl
                   simp only [Act.put, List.setIfInBounds_toArray, List.set_cons_zero, List.set_cons_succ])
                | (refine' hold_want ?_ ?_ (fun J hJ => ?_)
                   rotate_left 1
                   · simp only [List.getElem?_toArray, List.getElem?_cons_zero, List.getElem?_cons_succ]; exact rfl
                   · exact rfl
                   first
                   | (refine K.quiet_load_core _ rfl bc 0 _ rfl (fun w' ⟨L, hL⟩ => (BC.out _ (bt (bt H11.out (bt H13.out (bt H14.out (bt H16.out (bt H17.out (bt Hwr.out (bt H18.out (bt H20.out (bt H23.out (bt H24.out (bt H25.out (bt H28.out (bt H31.out H34.out))))))))))))) (hL ▸ L.ok : Below w34.heap.size w34 w'))).1) ?_; refine hJ _ ?_; clear hJ J; try simp only [Act.put, List.setIfInBounds_toArray, List.set_cons_zero, List.set_cons_succ])
                   | (refine quiet_extract _ _ rfl _ _ rfl rfl ?_; refine hJ _ ?_; clear hJ J; try simp only [Act.put, List.setIfInBounds_toArray, List.set_cons_zero, List.set_cons_succ])
                   | (go_big_quiet_op; refine hJ _ ?_; clear hJ J; try simp only [Act.put, List.setIfInBounds_toArray, List.set_cons_zero, List.set_cons_succ])))
            refine hold_done ?_
            refine hMet _ _ (Met.intro (hR _ _ ?_))
            exact ⟨_, _, _, _, _, _, _, _, ⟨rfl, hBs⟩, rfl⟩


        · refine' hold_step ?_ ?_ (fun J hJ => ?_)
          rotate_left 1
          · simp only [List.getElem?_toArray, List.getElem?_cons_zero, List.getElem?_cons_succ]; exact rfl
          · exact rfl
          unfold Oper.wp execOp
          go_simp
          obtain ⟨wa, hwa⟩ : ∃ wa, wa = wd.alloc (.cells #[.int .i64 0, .int .u8 0, .slice none 0 0] 35) := ⟨_, rfl⟩
          rw [← hwa]
          have hba : Below wd.heap.size wd wa := by rw [hwa]; exact K.alloc_below _ _
          have hza : ValIn wa wd.heap.size #[.int .i64 0, .int .u8 0, .slice none 0 0] := by rw [hwa]; exact World.alloc_heap_new _ _
          have hBa : Below w34.heap.size w34 wa := hBd.trans (hba.mono hBd.size)
          refine hJ _ _ hBa ?_
          clear hJ J hwa
          try simp only [Act.put, List.setIfInBounds_toArray, List.set_cons_zero, List.set_cons_succ]
          refine' hold_sole ?_ ?_ (fun J hJ => ?_)
          rotate_left 1
          · simp only [List.getElem?_toArray, List.getElem?_cons_zero, List.getElem?_cons_succ]; exact rfl
          · exact rfl
          refine wp_make_u8 _ _ rfl 257 rfl rfl (by decide) ?_
          intro wl hyl hbl
          have hBl : Below w34.heap.size w34 wl := hBa.trans (hbl.mono hBa.size)
          have hBlz := val_later hbl hza
          refine hJ _ _ hBl ?_
          clear hJ J hbl
          try simp only [Act.put, List.setIfInBounds_toArray, List.set_cons_zero, List.set_cons_succ]
          refine' hold_sole ?_ ?_ (fun J hJ => ?_)
          rotate_left 1
          · simp only [List.getElem?_toArray, List.getElem?_cons_zero, List.getElem?_cons_succ]; exact rfl
          · exact rfl
          go_simp
          refine (get_any (t := ⟨#[49]⟩) (BC.out _ (bt (bt H11.out (bt H13.out (bt H14.out (bt H16.out (bt H17.out (bt Hwr.out (bt H18.out (bt H20.out (bt H23.out (bt H24.out (bt H25.out (bt H28.out (bt H31.out H34.out))))))))))))) (hBl))).2 hyl (by decide)).mono ?_
          rintro e w8 ⟨k8, z8, a8, len8, cap8, rfl, _, hb8⟩
          rw [resG_many]
          have hB8 : Below w34.heap.size w34 w8 := hBl.trans (hb8.mono hBl.size)
          have hB8y := bytes_keep hyl hb8
          have hB8z := val_later hb8 hBlz
          refine hJ _ _ hB8 ?_
          clear hJ J hb8
          try simp only []
          repeat (first
              | (refine' hold_skip ?_ ?_ ?_
                 rotate_left 1
                 · simp only [List.getElem?_toArray, List.getElem?_cons_zero, List.getElem?_cons_succ]; exact rfl
                 · exact rfl
                 simp only [Act.put, List.setIfInBounds_toArray, List.set_cons_zero, List.set_cons_succ])
              | (refine' hold_want ?_ ?_ (fun J hJ => ?_)
                 rotate_left 1
                 · simp only [List.getElem?_toArray, List.getElem?_cons_zero, List.getElem?_cons_succ]; exact rfl
                 · exact rfl
                 first
                 | (refine K.quiet_load_core _ rfl bc 0 _ rfl (fun w' ⟨L, hL⟩ => (BC.out _ (bt (bt H11.out (bt H13.out (bt H14.out (bt H16.out (bt H17.out (bt Hwr.out (bt H18.out (bt H20.out (bt H23.out (bt H24.out (bt H25.out (bt H28.out (bt H31.out H34.out))))))))))))) (hL ▸ L.ok : Below w34.heap.size w34 w'))).1) ?_; refine hJ _ ?_; clear hJ J; try simp only [Act.put, List.setIfInBounds_toArray, List.set_cons_zero, List.set_cons_succ])
                 | (refine quiet_extract _ _ rfl _ _ rfl rfl ?_; refine hJ _ ?_; clear hJ J; try simp only [Act.put, List.setIfInBounds_toArray, List.set_cons_zero, List.set_cons_succ])
                 | (go_big_quiet_op; refine hJ _ ?_; clear hJ J; try simp only [Act.put, List.setIfInBounds_toArray, List.set_cons_zero, List.set_cons_succ])))
          refine' hold_sole ?_ ?_ (fun J hJ => ?_)
          rotate_left 1
          · simp only [List.getElem?_toArray, List.getElem?_cons_zero, List.getElem?_cons_succ]; exact rfl
          · exact rfl
          refine wp_store_val _ _ rfl wd.heap.size _ #[.int .i64 k8, .int .u8 z8, .slice a8 len8 cap8] rfl rfl hB8z rfl rfl (by simp [Value.oneCell']) ?_
          intro ws hns hos
          have hBs : Below w34.heap.size w34 ws := hos.below hB8 hBd.size
          refine hJ _ _ hBs ?_
          clear hJ J
          try simp only [Act.put]
          repeat (first
              | (refine' hold_skip ?_ ?_ ?_
                 rotate_left 1
                 · simp only [List.getElem?_toArray, List.getElem?_cons_zero, List.getElem?_cons_succ]; exact rfl
                 · exact rfl
                 simp only [Act.put, List.setIfInBounds_toArray, List.set_cons_zero, List.set_cons_succ])
              | (refine' hold_want ?_ ?_ (fun J hJ => ?_)
                 rotate_left 1
                 · simp only [List.getElem?_toArray, List.getElem?_cons_zero, List.getElem?_cons_succ]; exact rfl
                 · exact rfl
                 first
                 | (refine K.quiet_load_core _ rfl bc 0 _ rfl (fun w' ⟨L, hL⟩ => (BC.out _ (bt (bt H11.out (bt H13.out (bt H14.out (bt H16.out (bt H17.out (bt Hwr.out (bt H18.out (bt H20.out (bt H23.out (bt H24.out (bt H25.out (bt H28.out (bt H31.out H34.out))))))))))))) (hL ▸ L.ok : Below w34.heap.size w34 w'))).1) ?_; refine hJ _ ?_; clear hJ J; try simp only [Act.put, List.setIfInBounds_toArray, List.set_cons_zero, List.set_cons_succ])
                 | (refine quiet_extract _ _ rfl _ _ rfl rfl ?_; refine hJ _ ?_; clear hJ J; try simp only [Act.put, List.setIfInBounds_toArray, List.set_cons_zero, List.set_cons_succ])
                 | (go_big_quiet_op; refine hJ _ ?_; clear hJ J; try simp only [Act.put, List.setIfInBounds_toArray, List.set_cons_zero, List.set_cons_succ])))
          refine hold_done ?_
          refine hMet _ _ (Met.intro (hR _ _ ?_))
          exact ⟨_, _, _, _, _, _, _, _, ⟨rfl, hBs⟩, rfl⟩


      case rest =>
      obtain ⟨rfl, hBc⟩ := hcut
      obtain ⟨w35, hw⟩ : ∃ w35, w35 = wc := ⟨_, rfl⟩
      rw [← hw] at hBc ⊢
      have H35 := Lib.hid hBc
      clear hBc hw
      go_wp2_with fail
      refine (ch_eq (s := bAB) (bytes_lit w35 [97, 98] #[.int .u8 97, .int .u8 98] rfl (by decide) (by decide)) rfl).mono ?_
      rintro e w36 ⟨z36, rfl, hat36, hb'⟩
      obtain ⟨k36, s36, n36, a36, len36, cap36, rfl⟩ := K.at_lit hat36
      have H36 := Lib.hid (bt (K.alloc_below w35 _) hb')
      have A36 := Lib.hid hat36
      clear hb' hat36
      go_wp2_with fail
      refine (K.anew_walk A36.out).mono ?_
      rintro e w37 ⟨z37, rfl, hat37, hb'⟩
      obtain ⟨k37, s37, n37, a37, len37, cap37, rfl⟩ := K.at_lit hat37
      have H37 := Lib.hid hb'
      have A37 := Lib.hid hat37
      clear hb' hat37
      go_wp2_with fail
      refine (K.grp_walk 1 rfl A37.out).mono ?_
      rintro e w38 ⟨z38, rfl, hat38, hb'⟩
      obtain ⟨k38, s38, n38, a38, len38, cap38, rfl⟩ := K.at_lit hat38
      have H38 := Lib.hid hb'
      have A38 := Lib.hid hat38
      clear hb' hat38
      go_wp2_with (first
        | (refine wpList_conv_bytes rfl _ rfl w38.heap.size 1 1 #[.int .u8 98] 5 rfl (World.alloc_heap_new w38 _) ?_; intro w39 ho hc; have HO := Lib.hid (And.intro ho hc); clear ho hc)
        | fail)
      have hal39 : Below w38.heap.size w38 w39 := HO.out.1.below (K.alloc_below w38 _) (Nat.le_refl _)
      have hby : BytesAt w39 (some ⟨w38.heap.size, 0, none⟩) 1 1 [98] := bytesAt_cells (bytes_lit w38 [98] #[.int .u8 98] rfl (by decide) (by decide)) HO.out.2 (by rw [HO.out.1.size]; exact Nat.le_refl _)
      have H39 := Lib.hid hal39
      clear hal39 HO
      have hget := get_eq (t := (⟨#[]⟩ : ByteArray)) (v := (Vl.mk 7 0 [.mk 2 98 []])) (b := 0) (K.Cr.at_below H39.out (Nat.le_refl _) _ _ A38.out) hby (by decide) (by decide +kernel)
      have Hget := Lib.hid hget
      clear hget hby
      refine Hget.out.mono ?_
      rintro e w40 ⟨k40, z40, a40, len40, cap40, rfl, hv, hb'⟩
      obtain ⟨w41, hw41⟩ : ∃ w41, w41 = w40.alloc (.cells #[.int .i64 k40, .int .u8 z40, .slice a40 len40 cap40] 35) := ⟨_, rfl⟩
      have hal : Below w40.heap.size w40 w41 := by rw [hw41]; exact K.alloc_below _ _
      have h3 : Val3 w41 w40.heap.size 0 [.int .i64 k40, .int .u8 z40, .slice a40 len40 cap40] := val3_in (by rw [hw41]; exact World.alloc_heap_new _ _) rfl
      have hvv := Vl.at_below hal (Nat.le_refl _) _ _ hv
      obtain ⟨b40, hb40⟩ : ∃ b40, b40 = w40.heap.size := ⟨_, rfl⟩
      rw [← hb40] at h3
      have B40 := Lib.hid (fun (w' : World) (h : Below w41.heap.size w41 w') => And.intro (h3.below h3.lt h) (Vl.at_below h (Nat.le_refl _) _ _ hvv))
      have H41 := Lib.hid (bt hb' hal)
      clear hb' hv
      go_upto_region 20 with fail
      rw [← hw41, ← hb40]
      clear hw41 hal h3 hvv hb40 Hget
      obtain rfl := zero_len (B12.out _ (bt H14.out (bt H16.out (bt H17.out (bt Hwr.out (bt H18.out (bt H20.out (bt H23.out (bt H24.out (bt H25.out (bt H28.out (bt H31.out (bt H34.out (bt H35.out (bt H36.out (bt H37.out (bt H38.out (bt H39.out H41.out)))))))))))))))))).2
      obtain rfl := zero_len (B15.out _ (bt H17.out (bt Hwr.out (bt H18.out (bt H20.out (bt H23.out (bt H24.out (bt H25.out (bt H28.out (bt H31.out (bt H34.out (bt H35.out (bt H36.out (bt H37.out (bt H38.out (bt H39.out H41.out)))))))))))))))).2
      have c2 := (B12.out _ (bt H14.out (bt H16.out (bt H17.out (bt Hwr.out (bt H18.out (bt H20.out (bt H23.out (bt H24.out (bt H25.out (bt H28.out (bt H31.out (bt H34.out (bt H35.out (bt H36.out (bt H37.out (bt H38.out (bt H39.out H41.out)))))))))))))))))).1.2 2 (by decide)
      have c4 := (B15.out _ (bt H17.out (bt Hwr.out (bt H18.out (bt H20.out (bt H23.out (bt H24.out (bt H25.out (bt H28.out (bt H31.out (bt H34.out (bt H35.out (bt H36.out (bt H37.out (bt H38.out (bt H39.out H41.out)))))))))))))))).1.2 2 (by decide)
      simp only [List.getElem?_cons_zero, List.getElem?_cons_succ, Nat.zero_add] at c2 c4
      simp only [List.append]
      go_wp2_with (first
        | (refine wpList_load_val_want rfl _ rfl b19 0 _ rfl (B19.out _ (bt H23.out (bt H24.out (bt H25.out (bt H28.out (bt H31.out (bt H34.out (bt H35.out (bt H36.out (bt H37.out (bt H38.out (bt H39.out H41.out)))))))))))).1 ?_)
        | fail)
      refine (put_eq (t := (⟨#[48, 48, 48, 49, 48, 49]⟩ : ByteArray)) (B19.out _ (bt H23.out (bt H24.out (bt H25.out (bt H28.out (bt H31.out (bt H34.out (bt H35.out (bt H36.out (bt H37.out (bt H38.out (bt H39.out H41.out)))))))))))).2 (by decide +kernel)).mono ?_
      rintro e w42 ⟨rfl, hb'⟩
      have H42 := Lib.hid hb'
      clear hb'
      go_wp2_with (first
        | (refine wpList_load_val_want rfl _ rfl b19 0 _ rfl (B19.out _ (bt H23.out (bt H24.out (bt H25.out (bt H28.out (bt H31.out (bt H34.out (bt H35.out (bt H36.out (bt H37.out (bt H38.out (bt H39.out (bt H41.out H42.out))))))))))))).1 ?_)
        | fail)
      refine (text_known (t := (⟨#[91, 76, 54, 49, 44, 82, 40, 54, 50, 44, 76, 54, 51, 41, 93]⟩ : ByteArray)) (B19.out _ (bt H23.out (bt H24.out (bt H25.out (bt H28.out (bt H31.out (bt H34.out (bt H35.out (bt H36.out (bt H37.out (bt H38.out (bt H39.out (bt H41.out H42.out))))))))))))).2 (by decide +kernel)).mono ?_
      rintro e w43 ⟨rfl, hb'⟩
      have H43 := Lib.hid hb'
      clear hb'
      go_wp2_with (first
        | (refine wpList_load_val_want rfl _ rfl b40 0 _ rfl (B40.out _ (bt H42.out H43.out)).1 ?_)
        | fail)
      refine (text_known (t := (⟨#[60, 54, 50, 62]⟩ : ByteArray)) (B40.out _ (bt H42.out H43.out)).2 (by decide +kernel)).mono ?_
      rintro e w44 ⟨rfl, hb'⟩
      have H44 := Lib.hid hb'
      clear hb'
      go_wp2_with (first
        | fail)
      refine (put_eq (v := .mk 9 0 []) (t := (⟨#[]⟩ : ByteArray)) (at_plain rfl (by decide)) (by decide +kernel)).mono ?_
      rintro e w45 ⟨rfl, hb'⟩
      have H45 := Lib.hid hb'
      clear hb'
      go_wp2_with (first
        | fail)
      refine (put_eq (v := .mk 6 0 []) (t := (⟨#[49]⟩ : ByteArray)) (at_plain rfl (by decide)) (by decide +kernel)).mono ?_
      rintro e w46 ⟨rfl, hb'⟩
      have H46 := Lib.hid hb'
      clear hb'
      go_wp2_with fail
      go_ret
      exact ⟨rfl, (bt H1.out (bt H2.out (bt H3.out (bt H4.out (bt H5.out (bt H6.out (bt H7.out (bt H8.out (bt H9.out (bt H10.out (bt H11.out (bt H13.out (bt H14.out (bt H16.out (bt H17.out (bt Hwr.out (bt H18.out (bt H20.out (bt H23.out (bt H24.out (bt H25.out (bt H28.out (bt H31.out (bt H34.out (bt H35.out (bt H36.out (bt H37.out (bt H38.out (bt H39.out (bt H41.out (bt H42.out (bt H43.out (bt H44.out (bt H45.out H46.out))))))))))))))))))))))))))))))))))⟩

end V
end Go.Proofs.Ytklmomgccmekkaa
