/- The walk of law 4's num: digits. -/
import Derived.Test.YthppkaohmdnjcaaTokenAwake
import Derived.Deep.QuietTactic
namespace Go.Proofs.Ythppkaohmdnjcaa
open Go.RowKit
theorem nats_ofNats (l : List Nat) (h : ∀ x ∈ l, x < 256) : nats (ofNats l) = l := by
  show (toBytes l).map UInt8.toNat = l
  unfold toBytes
  rw [List.map_map]
  conv => rhs; rw [← List.map_id l]
  apply List.map_congr_left
  intro x hx
  have := h x hx
  simp; omega
theorem nats_add (x y : ByteArray) : nats (x ++ y) = nats x ++ nats y := by
  unfold nats
  rw [ByteArray.data_append, Array.toList_append, List.map_append]
theorem ofNats_add (x y : List Nat) : ofNats x ++ ofNats y = ofNats (x ++ y) := by
  apply ByteArray.ext
  rw [ByteArray.data_append]
  show (toBytes x).toArray ++ (toBytes y).toArray = (toBytes (x ++ y)).toArray
  simp [toBytes]
theorem numText_lt (n : Nat) : ∀ x ∈ numText n, x < 256 := by
  intro x hx
  have := (numText_dig n).2.1 x hx
  simp [isDig] at this
  omega
theorem numText_len : ∀ (k n : Nat), n < 10 ^ (k + 1) → (numText n).length ≤ k + 1
  | 0, n, h => by
    rw [numText, if_pos (by simpa using h)]; simp
  | k + 1, n, h => by
    rw [numText]
    split
    · simp
    · rw [List.length_append]
      have := numText_len k (n / 10) (by rw [Nat.pow_succ] at h; omega)
      simp; omega
theorem num_small (n : Nat) (hn : n < 10) (w : World) : Calls Try.prog 14 #[.int .u64 n] w fun e w' => e = .returned (.string (ofNats (numText n))) ∧ Below w.heap.size w w' := by
  have ht : numText n = [48 + n] := by rw [numText, if_pos hn]
  have hd : decide ((n : Int) < 10) = true := by simp; omega
  rw [ht]
  have hB : BytesAt (w.alloc (.cells #[.int .u8 (48 + (n : Int))] 5)) (some ⟨w.heap.size, 0, none⟩) 1 1 [48 + n] := bytes_lit w [48 + n] _ (by simp [u8v]) (by intro x hx; rw [List.mem_singleton] at hx; omega) (by simp [maxLen])
  clear ht
  go_enter Try.func14, Try.ntmps14
  go_wp2_with fail
  all_goals try omega
  rw [string_at hB]
  simp only [Result.andThen_ok]
  rw [Oper.upon_value]
  go_wp2_with fail
  go_ret
  exact ⟨rfl, (Below.refl _ _).alloc (Nat.le_refl _) _⟩
theorem num_any (n : Nat) (hn : n < 18446744073709551616) (w : World) : Calls Try.prog 14 #[.int .u64 n] w fun e w' => e = .returned (.string (ofNats (numText n))) ∧ Below w.heap.size w w' := by
  induction n using Nat.strongRecOn generalizing w with
  | _ n ih =>
    by_cases h : n < 10
    · exact num_small n h w
    · have ht : numText n = numText (n / 10) ++ [48 + n % 10] := by rw [numText, if_neg h]
      have hd : decide ((n : Int) < 10) = false := by simp; omega
      have hcall := fun w => ih (n / 10) (by omega) (by omega) w
      rw [show ((n / 10 : Nat) : Int) = (n : Int) / 10 from by omega] at hcall
      have hadd := ofNats_add (numText (n / 10)) [48 + n % 10]
      rw [← ht] at hadd
      have hX : (ofNats (numText (n / 10))).size ≤ 20 := by rw [ofNats_size]; exact numText_len 19 _ (by omega)
      clear ih ht
      generalize ofNats (numText (n / 10)) = X at *
      have hX1 : ¬ 9223372036854775807 < X.size + 1 := by omega
      have hT1 : (⟨(toBytes [48 + n % 10]).toArray⟩ : ByteArray).size = 1 := ofNats_size _
      go_enter Try.func14, Try.ntmps14
      go_wp2_with fail
      have hne := Later.nonempty w
      refine wp_region_eager (.plain 0 (.plain 1 (.plain 3 (.plain 4 (.plain 5 (.plain 6 (.fork 2 (.sole 7 (.plain 8 (.plain 9 (.plain 10 .done)))) 7 (.plain 8 (.sole 2 (.plain 9 (.plain 10 .done))))))))))) (W0 := w) (Below.refl _ _) (by kernel_rfl) (by kernel_rfl) (fun c a d v w h => by cases d <;> exact h) ?_
      have hcur := (Below.refl w.heap.size w).drew
      repeat (first
          | (refine' eager_skip ?_ ?_ ?_
             rotate_left 1
             · simp only [List.getElem?_toArray, List.getElem?_cons_zero, List.getElem?_cons_succ]; exact rfl
             · exact rfl
             simp only [Act.put, List.setIfInBounds_toArray, List.set_cons_zero, List.set_cons_succ])
          | (refine' eager_want ?_ ?_ (fun K hK => ?_)
             rotate_left 1
             · simp only [List.getElem?_toArray, List.getElem?_cons_zero, List.getElem?_cons_succ]; exact rfl
             · exact rfl
             first
             | (go_big_quiet_op; refine hK _ ?_; clear hK K)))
      refine eager_fork ?_ ?_
      · refine' step_call ?_ ?_ (fun K hK => ?_)
        rotate_left 1
        · simp only [List.getElem?_toArray, List.getElem?_cons_zero, List.getElem?_cons_succ]; exact rfl
        · exact rfl
        go_simp
        refine (hcall _).mono ?_
        rintro e wn ⟨rfl, hb⟩
        refine hK _ _ hb ?_
        replace hcur := hcur.trans (hb.mono hcur.size)
        clear hb hK K
        try simp only [Act.put, List.setIfInBounds_toArray, List.set_cons_zero, List.set_cons_succ]
        refine' eager_call_new ?_ ?_ (fun K hK => ?_)
        rotate_left 1
        · simp only [List.getElem?_toArray, List.getElem?_cons_zero, List.getElem?_cons_succ]; exact rfl
        · exact rfl
        go_simp
        refine hK _ _ ((Below.refl _ _).alloc (Nat.le_refl _) _) ?_
        have B1 : BytesAt (wn.alloc (.cells #[.int .u8 (48 + (n : Int) % 10)] 5)) (some ⟨wn.heap.size, 0, none⟩) 1 1 [48 + n % 10] := bytes_lit wn [48 + n % 10] _ (by simp [u8v]) (by intro x hx; rw [List.mem_singleton] at hx; omega) (by simp [maxLen])
        have hne' := Later.nonempty (wn.alloc (.cells #[.int .u8 (48 + (n : Int) % 10)] 5))
        have hbs : ∀ w', (∃ L : Later (wn.alloc (.cells #[.int .u8 (48 + (n : Int) % 10)] 5)), w' = L.val) → BytesAt w' (some ⟨wn.heap.size, 0, none⟩) 1 1 [48 + n % 10] := fun w' hw' => by obtain ⟨L, rfl⟩ := hw'; exact bytes_keep B1 L.ok
        replace hcur := hcur.alloc hcur.size (.cells #[.int .u8 (48 + (n : Int) % 10)] 5)
        clear hK
        try simp only [Act.put, List.setIfInBounds_toArray, List.set_cons_zero, List.set_cons_succ]
        refine' eager_want ?_ ?_ (fun K hK => ?_)
        rotate_left 1
        · simp only [List.getElem?_toArray, List.getElem?_cons_zero, List.getElem?_cons_succ]; exact rfl
        · exact rfl
        refine quiet_string _ rfl _ _ _ rfl [48 + n % 10] hbs ?_
        refine hK _ ?_
        clear hK K
        try simp only [Act.put, List.setIfInBounds_toArray, List.set_cons_zero, List.set_cons_succ]
        repeat (first
            | (refine' eager_skip ?_ ?_ ?_
               rotate_left 1
               · simp only [List.getElem?_toArray, List.getElem?_cons_zero, List.getElem?_cons_succ]; exact rfl
               · exact rfl
               simp only [Act.put, List.setIfInBounds_toArray, List.set_cons_zero, List.set_cons_succ])
            | (refine' eager_want ?_ ?_ (fun K hK => ?_)
               rotate_left 1
               · simp only [List.getElem?_toArray, List.getElem?_cons_zero, List.getElem?_cons_succ]; exact rfl
               · exact rfl
               first
               | (go_big_quiet_op; refine hK _ ?_; clear hK K)))
        refine eager_done ?_
        go_wp2_with fail
        go_ret
        exact ⟨by rw [← hadd]; rfl, hcur⟩
      · refine' step_call_new ?_ ?_ (fun K hK => ?_)
        rotate_left 1
        · simp only [List.getElem?_toArray, List.getElem?_cons_zero, List.getElem?_cons_succ]; exact rfl
        · exact rfl
        go_simp
        refine hK _ _ ((Below.refl _ _).alloc (Nat.le_refl _) _) ?_
        have B1 : BytesAt (w.alloc (.cells #[.int .u8 (48 + (n : Int) % 10)] 5)).drew (some ⟨w.heap.size, 0, none⟩) 1 1 [48 + n % 10] := bytes_lit w [48 + n % 10] _ (by simp [u8v]) (by intro x hx; rw [List.mem_singleton] at hx; omega) (by simp [maxLen])
        have hne' := Later.nonempty (w.alloc (.cells #[.int .u8 (48 + (n : Int) % 10)] 5)).drew
        have hbs : ∀ w', (∃ L : Later (w.alloc (.cells #[.int .u8 (48 + (n : Int) % 10)] 5)).drew, w' = L.val) → BytesAt w' (some ⟨w.heap.size, 0, none⟩) 1 1 [48 + n % 10] := fun w' hw' => by obtain ⟨L, rfl⟩ := hw'; exact bytes_keep B1 L.ok
        replace hcur := hcur.alloc hcur.size (.cells #[.int .u8 (48 + (n : Int) % 10)] 5)
        clear hK
        try simp only [Act.put, List.setIfInBounds_toArray, List.set_cons_zero, List.set_cons_succ]
        refine' eager_want ?_ ?_ (fun K hK => ?_)
        rotate_left 1
        · simp only [List.getElem?_toArray, List.getElem?_cons_zero, List.getElem?_cons_succ]; exact rfl
        · exact rfl
        refine quiet_string _ rfl _ _ _ rfl [48 + n % 10] hbs ?_
        refine hK _ ?_
        clear hK K
        try simp only [Act.put, List.setIfInBounds_toArray, List.set_cons_zero, List.set_cons_succ]
        refine' eager_call ?_ ?_ (fun K hK => ?_)
        rotate_left 1
        · simp only [List.getElem?_toArray, List.getElem?_cons_zero, List.getElem?_cons_succ]; exact rfl
        · exact rfl
        go_simp
        refine (hcall _).mono ?_
        rintro e wn ⟨rfl, hb⟩
        refine hK _ _ hb ?_
        replace hcur := hcur.trans (hb.mono hcur.size)
        clear hb hK K
        try simp only [Act.put, List.setIfInBounds_toArray, List.set_cons_zero, List.set_cons_succ]
        repeat (first
            | (refine' eager_skip ?_ ?_ ?_
               rotate_left 1
               · simp only [List.getElem?_toArray, List.getElem?_cons_zero, List.getElem?_cons_succ]; exact rfl
               · exact rfl
               simp only [Act.put, List.setIfInBounds_toArray, List.set_cons_zero, List.set_cons_succ])
            | (refine' eager_want ?_ ?_ (fun K hK => ?_)
               rotate_left 1
               · simp only [List.getElem?_toArray, List.getElem?_cons_zero, List.getElem?_cons_succ]; exact rfl
               · exact rfl
               first
               | (go_big_quiet_op; refine hK _ ?_; clear hK K)))
        refine eager_done ?_
        go_wp2_with fail
        go_ret
        exact ⟨by rw [← hadd]; rfl, hcur⟩
end Go.Proofs.Ythppkaohmdnjcaa
