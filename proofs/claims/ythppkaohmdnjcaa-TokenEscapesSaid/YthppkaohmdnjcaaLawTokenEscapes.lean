/- The walk of the law on bytes behind a backslash. -/
import Derived.Test.YthppkaohmdnjcaaTokenAwake
namespace Go.Proofs.Ythppkaohmdnjcaa
open Go.RowKit
theorem nats_ofNats (l : List Nat) (h : ∀ x ∈ l, x < 256) : nats (ofNats l) = l := by
  show (toBytes l).map UInt8.toNat = l
  unfold toBytes
  rw [List.map_map]
  conv => rhs; rw [← List.map_id l]
  apply List.map_congr_left
  intro x hx
  have := h x hx
  simp; omega
theorem nats_add (x y : ByteArray) : nats (x ++ y) = nats x ++ nats y := by
  unfold nats
  rw [ByteArray.data_append, Array.toList_append, List.map_append]
set_option maxHeartbeats 4000000 in
theorem tokenEscapes_walk (b : Nat) (hb : b < 256) (w : World) (hm : MaxAt w) : Calls Try.prog 5 #[.int .u8 b] w fun e w' => e = .returned (.bool true) ∧ Below w.heap.size w w' := by
  have hlb : ∀ x ∈ [b], x < 256 := by intro x hx; rw [List.mem_singleton] at hx; omega
  have hn1 : nats (ofNats [b]) = [b] := nats_ofNats [b] hlb
  have hn2 : nats (⟨#[92]⟩ ++ ofNats [b]) = [92, b] := by rw [nats_add, hn1]; rfl
  have hsz2 : (⟨#[92]⟩ ++ ofNats [b] : ByteArray).size = 2 := by rw [← nats_length, hn2]; rfl
  have hsz1 : (ofNats [b]).size = 1 := by rw [← nats_length, hn1]; rfl
  have hof := fun (a : Option Addr) (cap : Nat) (w : World) h => of_any a 1 cap [b] w h
  rw [setOf_one] at hof
  by_cases hs : b ∈ specials
  · have hc := esc_yes cls b hs
    rw [← hn2] at hc
    have hcut := cut_good _ (by omega) _ hc
    rw [hsz2] at hcut
    clear hc hn2 hn1 hsz1 hsz2 hs
    generalize oneByte b = S at *
    have heq : ∀ w, (Op.equalIn 10000 32 (SV S) (SV S)).run Try.prog w = .ok true w := eql_set_at 9998 S
    go_enter Try.func5, Try.ntmps5
    go_wp2_with fail
    refine (awake4_any _ hm).mono ?_
    rintro e w1 ⟨rfl, hb1⟩
    have hm1 := maxAt_below hm hb1
    go_wp2_with fail
    have hB : BytesAt (w1.alloc (.cells #[.int .u8 b] 5)) (some ⟨w1.heap.size, 0, none⟩) 1 1 [b] := bytes_lit w1 [b] #[.int .u8 b] rfl hlb (by simp [maxLen])
    rw [string_at hB]
    simp only [Result.andThen_ok]
    rw [Oper.upon_value]
    go_wp2_with fail
    refine (hcut _ (maxAt_below hm1 ((Below.refl _ _).alloc (Nat.le_refl _) _))).mono ?_
    rintro e w2 ⟨v, rfl, ht, hb2⟩
    have hn2 : Below w.heap.size w w2 := (hb1.alloc hb1.size _).trans (hb2.mono (by have := hb1.size; simp; omega))
    clear hb2 hm1 hcut
    clear hB
    obtain ⟨g, cap, rfl, hcap, hg, ht0⟩ := toks_one ht
    have hlt : ∀ w', (∃ L : Later w2, w' = L.val) → Tok8 w' g 0 ⟨1, S, 0, 0⟩ 0 := fun w' hw' => by obtain ⟨L, rfl⟩ := hw'; exact ht0.below L.ok hg
    have hls : ∀ w', (∃ L : Later w2, w' = L.val) → Set4 w' g 1 S := fun w' hw' q hq => by
      have := hlt w' hw' (q + 1) (.int .u64 (word S q)) (by
        have h4 : q = 0 ∨ q = 1 ∨ q = 2 ∨ q = 3 := by omega
        rcases h4 with rfl | rfl | rfl | rfl <;> rfl)
      rw [show 1 + q = 0 + (q + 1) from by omega]; exact this
    have hlk : ∀ L : Later w2, L.val.cell? ⟨g, 0, none⟩ = some (.int .i64 1) := fun L => hlt L.val ⟨L, rfl⟩ 0 _ rfl
    clear ht ht0
    go_wp2_with fail
    have hne := Later.nonempty w2
    refine wp_region_eager (.plain 0 (.plain 1 (.plain 2 (.plain 3 (.plain 4 (.plain 5 (.plain 6 (.plain 7 (.plain 8 (.plain 9 (.plain 10 (.plain 11 (.plain 12 (.plain 13 (.plain 14 (.plain 15 (.plain 16 (.plain 17 (.plain 18 (.plain 19 (.sole 20 (.sole 21 (.plain 22 (.plain 23 (.plain 24 .done))))))))))))))))))))))))) (W0 := w2) (Below.refl _ _) (by kernel_rfl) (by kernel_rfl) (fun c a d v w h => by cases d <;> exact h) ?_
    have hcur := (Below.refl w2.heap.size w2).drew
    repeat (first
        | (refine' eager_skip ?_ ?_ ?_
           rotate_left 1
           · simp only [List.getElem?_toArray, List.getElem?_cons_zero, List.getElem?_cons_succ]; exact rfl
           · exact rfl
           simp only [Act.put, List.setIfInBounds_toArray, List.set_cons_zero, List.set_cons_succ])
        | (refine' eager_want ?_ ?_ (fun K hK => ?_)
           rotate_left 1
           · simp only [List.getElem?_toArray, List.getElem?_cons_zero, List.getElem?_cons_succ]; exact rfl
           · exact rfl
           first
           | (refine quiet_load_set _ rfl g 1 S rfl hls ?_; refine hK _ ?_; clear hK K; try simp only [Act.put, List.setIfInBounds_toArray, List.set_cons_zero, List.set_cons_succ])
           | (go_big_quiet_op; refine hK _ ?_; clear hK K)))
    refine' eager_call ?_ ?_ (fun K hK => ?_)
    rotate_left 1
    · simp only [List.getElem?_toArray, List.getElem?_cons_zero, List.getElem?_cons_succ]; exact rfl
    · exact rfl
    go_simp
    refine hK _ _ ((Below.refl _ _).alloc (Nat.le_refl _) _) ?_
    have B1 : BytesAt (w2.alloc (.cells #[.int .u8 b] 5)).drew (some ⟨w2.heap.size, 0, none⟩) 1 1 [b] := bytes_lit w2 [b] #[.int .u8 b] rfl hlb (by simp [maxLen])
    replace hcur := hcur.alloc hcur.size (.cells #[.int .u8 b] 5)
    clear hK
    try simp only [Act.put, List.setIfInBounds_toArray, List.set_cons_zero, List.set_cons_succ]
    refine' eager_call ?_ ?_ (fun K hK => ?_)
    rotate_left 1
    · simp only [List.getElem?_toArray, List.getElem?_cons_zero, List.getElem?_cons_succ]; exact rfl
    · exact rfl
    go_simp
    refine (hof _ _ _ B1).mono ?_
    rintro e wn ⟨rfl, hb⟩
    refine hK _ _ hb ?_
    replace hcur := hcur.trans (hb.mono hcur.size)
    clear hb hK K
    try simp only [Act.put, List.setIfInBounds_toArray, List.set_cons_zero, List.set_cons_succ]
    repeat (first
        | (refine' eager_skip ?_ ?_ ?_
           rotate_left 1
           · simp only [List.getElem?_toArray, List.getElem?_cons_zero, List.getElem?_cons_succ]; exact rfl
           · exact rfl
           simp only [Act.put, List.setIfInBounds_toArray, List.set_cons_zero, List.set_cons_succ])
        | (refine' eager_want ?_ ?_ (fun K hK => ?_)
           rotate_left 1
           · simp only [List.getElem?_toArray, List.getElem?_cons_zero, List.getElem?_cons_succ]; exact rfl
           · exact rfl
           first
           | (refine quiet_load_set _ rfl g 1 S rfl hls ?_; refine hK _ ?_; clear hK K; try simp only [Act.put, List.setIfInBounds_toArray, List.set_cons_zero, List.set_cons_succ])
           | (go_big_quiet_op; refine hK _ ?_; clear hK K)))
    refine eager_done ?_
    go_wp2_with fail
    go_ret
    exact ⟨rfl, hn2.trans (hcur.mono hn2.size)⟩
  · have hc := esc_no cls b hs
    rw [← hn2] at hc
    have hcut := cut_refused _ (by omega) _ _ hc
    have hc1 := alone cls b hs
    rw [← hn1] at hc1
    have hcut1 := cut_good _ (by omega) _ hc1
    rw [hsz1] at hcut1
    clear hc hc1 hn2 hn1 hsz1 hsz2 hs
    generalize oneByte b = S at *
    have heq : ∀ w, (Op.equalIn 10000 39 (.agg #[.int .i64 1, .int .u64 (word S 0), .int .u64 (word S 1), .int .u64 (word S 2), .int .u64 (word S 3), .int .i64 0, .int .i64 0, .int .i64 0]) (.agg #[.int .i64 1, .int .u64 (word S 0), .int .u64 (word S 1), .int .u64 (word S 2), .int .u64 (word S 3), .int .i64 0, .int .i64 0, .int .i64 0])).run Try.prog w = .ok true w := fun w => eql_tok ⟨1, S, 0, 0⟩ 0 w
    have hways : (decide (49 ≤ (b : Int)) = true ∧ decide ((b : Int) ≤ 57) = true ∧ (if 49 ≤ b ∧ b ≤ 57 then 3 else 2) = 3) ∨ (decide (49 ≤ (b : Int)) = true ∧ decide ((b : Int) ≤ 57) = false ∧ (if 49 ≤ b ∧ b ≤ 57 then 3 else 2) = 2) ∨ (decide (49 ≤ (b : Int)) = false ∧ (if 49 ≤ b ∧ b ≤ 57 then 3 else 2) = 2) := by
      by_cases h1 : 49 ≤ b
      · by_cases h2 : b ≤ 57
        · exact .inl ⟨by simp; omega, by simp; omega, if_pos ⟨h1, h2⟩⟩
        · exact .inr (.inl ⟨by simp; omega, by simp; omega, if_neg (fun h => h2 h.2)⟩)
      · exact .inr (.inr ⟨by simp; omega, if_neg (fun h => h1 h.1)⟩)
    simp only at hcut
    rcases hways with ⟨d1, d2, d3⟩ | ⟨d1, d2, d3⟩ | ⟨d1, d3⟩
    all_goals
      rw [d3] at hcut
      clear d3
      go_enter Try.func5, Try.ntmps5
      go_wp2_with fail
      refine (awake4_any _ hm).mono ?_
      rintro e w1 ⟨rfl, hb1⟩
      have hm1 := maxAt_below hm hb1
      go_wp2_with fail
      have hB : BytesAt (w1.alloc (.cells #[.int .u8 b] 5)) (some ⟨w1.heap.size, 0, none⟩) 1 1 [b] := bytes_lit w1 [b] #[.int .u8 b] rfl hlb (by simp [maxLen])
      rw [string_at hB]
      simp only [Result.andThen_ok]
      rw [Oper.upon_value]
      go_wp2_with fail
      refine (hcut _ (maxAt_below hm1 ((Below.refl _ _).alloc (Nat.le_refl _) _))).mono ?_
      rintro e w2 ⟨rfl, hb2⟩
      have hn2 : Below w.heap.size w w2 := (hb1.alloc hb1.size _).trans (hb2.mono (by have := hb1.size; simp; omega))
      clear hb2 hm1 hcut hB
      have hm2 := maxAt_below hm hn2
      go_wp2_with fail
      have hB : BytesAt (w2.alloc (.cells #[.int .u8 b] 5)) (some ⟨w2.heap.size, 0, none⟩) 1 1 [b] := bytes_lit w2 [b] #[.int .u8 b] rfl hlb (by simp [maxLen])
      rw [string_at hB]
      simp only [Result.andThen_ok]
      rw [Oper.upon_value]
      go_wp2_with fail
      refine (hcut1 _ (maxAt_below hm2 ((Below.refl _ _).alloc (Nat.le_refl _) _))).mono ?_
      rintro e w3 ⟨v, rfl, ht, hb3⟩
      have hn3 : Below w.heap.size w w3 := (hn2.alloc hn2.size _).trans (hb3.mono (by have := hn2.size; simp; omega))
      clear hb3 hm2 hcut1 hn2
      clear hB
      obtain ⟨g, cap, rfl, hcap, hg, ht0⟩ := toks_one ht
      have hlt : ∀ w', (∃ L : Later w3, w' = L.val) → Tok8 w' g 0 ⟨1, S, 0, 0⟩ 0 := fun w' hw' => by obtain ⟨L, rfl⟩ := hw'; exact ht0.below L.ok hg
      clear ht ht0
      go_wp2_with fail
      have hne := Later.nonempty w3
      refine wp_region_eager (.plain 0 (.plain 1 (.plain 2 (.plain 3 (.plain 4 (.plain 5 (.plain 6 (.plain 7 (.plain 8 (.plain 9 (.plain 10 (.plain 11 (.plain 12 (.plain 13 (.plain 14 (.plain 15 (.plain 16 (.plain 17 (.plain 18 (.plain 19 (.plain 20 (.plain 21 (.plain 22 (.plain 23 (.plain 24 (.plain 25 (.plain 26 (.plain 27 (.plain 28 (.plain 29 (.plain 30 (.sole 31 (.sole 32 (.plain 33 (.plain 34 (.plain 35 (.plain 36 .done))))))))))))))))))))))))))))))))))))) (W0 := w3) (Below.refl _ _) (by kernel_rfl) (by kernel_rfl) (fun c a d v w h => by cases d <;> exact h) ?_
      have hcur := (Below.refl w3.heap.size w3).drew
      repeat (first
          | (refine' eager_skip ?_ ?_ ?_
             rotate_left 1
             · simp only [List.getElem?_toArray, List.getElem?_cons_zero, List.getElem?_cons_succ]; exact rfl
             · exact rfl
             simp only [Act.put, List.setIfInBounds_toArray, List.set_cons_zero, List.set_cons_succ])
          | (refine' eager_want ?_ ?_ (fun K hK => ?_)
             rotate_left 1
             · simp only [List.getElem?_toArray, List.getElem?_cons_zero, List.getElem?_cons_succ]; exact rfl
             · exact rfl
             first
             | (refine quiet_load_tokV _ rfl g 0 ⟨1, S, 0, 0⟩ 0 (.agg #[.int .i64 1, .int .u64 (word S 0), .int .u64 (word S 1), .int .u64 (word S 2), .int .u64 (word S 3), .int .i64 0, .int .i64 0, .int .i64 0]) rfl rfl hlt ?_; refine hK _ ?_; clear hK K; try simp only [Act.put, List.setIfInBounds_toArray, List.set_cons_zero, List.set_cons_succ])
             | (go_big_quiet_op; refine hK _ ?_; clear hK K)))
      refine' eager_call ?_ ?_ (fun K hK => ?_)
      rotate_left 1
      · simp only [List.getElem?_toArray, List.getElem?_cons_zero, List.getElem?_cons_succ]; exact rfl
      · exact rfl
      go_simp
      refine hK _ _ ((Below.refl _ _).alloc (Nat.le_refl _) _) ?_
      have B1 : BytesAt (w3.alloc (.cells #[.int .u8 b] 5)).drew (some ⟨w3.heap.size, 0, none⟩) 1 1 [b] := bytes_lit w3 [b] #[.int .u8 b] rfl hlb (by simp [maxLen])
      replace hcur := hcur.alloc hcur.size (.cells #[.int .u8 b] 5)
      clear hK
      try simp only [Act.put, List.setIfInBounds_toArray, List.set_cons_zero, List.set_cons_succ]
      refine' eager_call ?_ ?_ (fun K hK => ?_)
      rotate_left 1
      · simp only [List.getElem?_toArray, List.getElem?_cons_zero, List.getElem?_cons_succ]; exact rfl
      · exact rfl
      go_simp
      refine (hof _ _ _ B1).mono ?_
      rintro e wn ⟨rfl, hb⟩
      refine hK _ _ hb ?_
      replace hcur := hcur.trans (hb.mono hcur.size)
      clear hb hK K
      try simp only [Act.put, List.setIfInBounds_toArray, List.set_cons_zero, List.set_cons_succ]
      repeat (first
          | (refine' eager_skip ?_ ?_ ?_
             rotate_left 1
             · simp only [List.getElem?_toArray, List.getElem?_cons_zero, List.getElem?_cons_succ]; exact rfl
             · exact rfl
             simp only [Act.put, List.setIfInBounds_toArray, List.set_cons_zero, List.set_cons_succ])
          | (refine' eager_want ?_ ?_ (fun K hK => ?_)
             rotate_left 1
             · simp only [List.getElem?_toArray, List.getElem?_cons_zero, List.getElem?_cons_succ]; exact rfl
             · exact rfl
             first
             | (refine quiet_load_tokV _ rfl g 0 ⟨1, S, 0, 0⟩ 0 (.agg #[.int .i64 1, .int .u64 (word S 0), .int .u64 (word S 1), .int .u64 (word S 2), .int .u64 (word S 3), .int .i64 0, .int .i64 0, .int .i64 0]) rfl rfl hlt ?_; refine hK _ ?_; clear hK K; try simp only [Act.put, List.setIfInBounds_toArray, List.set_cons_zero, List.set_cons_succ])
             | (go_big_quiet_op; refine hK _ ?_; clear hK K)))
      refine eager_done ?_
      go_wp2_with fail
      go_ret
      exact ⟨rfl, hn3.trans (hcur.mono hn3.size)⟩
end Go.Proofs.Ythppkaohmdnjcaa
