/- The walk of law 6's ParseBrackets. -/
import Derived.Test.YtjfenbjamlflcaaParseWhole
import Derived.Test.YtjfenbjamlflcaaEager
import Derived.Test.YtjfenbjamlflcaaTreeFormed
namespace Go.Proofs.Ytjfenbjamlflcaa
set_option maxRecDepth 100000
open Go.RowKit
set_option maxHeartbeats 4000000 in
theorem brackets_over (s : ByteArray) (h : 300 < s.size) (w : World) (hM : MaxAt w) : Calls Try.prog 6 #[.string s] w fun e w' => e = .returned (.bool true) ∧ Below w.heap.size w w' := by
  have h1 : (300 : Int) < s.size := by omega
  go_enter Try.func6, Try.ntmps6
  go_wp2_with fail
  refine (awake6_any _ hM).mono ?_
  rintro e w1 ⟨rfl, hb1⟩
  go_wp2_with fail
  go_ret
  exact ⟨rfl, hb1⟩
set_option maxHeartbeats 4000000 in
theorem brackets_err (s : ByteArray) (h : s.size ≤ 300) (k e0 : Int) (he : ofP cls (nats s) = .err k e0) (w : World) (hM : MaxAt w) : Calls Try.prog 6 #[.string s] w fun e w' => e = .returned (.bool true) ∧ Below w.heap.size w w' := by
  have h1 : ¬ (300 : Int) < s.size := by omega
  have hne := of_err he
  have hof := fun w hm => of_walk s w hm
  rw [he] at hof
  have Hof := Lib.hid hof
  clear he hof
  go_enter Try.func6, Try.ntmps6
  go_wp2_with fail
  refine (awake6_any _ hM).mono ?_
  rintro e w1 ⟨rfl, hb1⟩
  have M1 := maxAt_below hM hb1
  have Hb1 := Lib.hid hb1
  clear hb1
  go_wp2_with fail
  refine (Hof.out _ M1).mono ?_
  rintro e w2 ⟨rfl, hb2⟩
  have Hb2 := Lib.hid (Hb1.out.trans (hb2.mono Hb1.out.size))
  clear hb2 M1 hM
  go_wp2_with fail
  go_ret
  exact ⟨rfl, Hb2.out.alloc Hb2.out.size _⟩
set_option maxHeartbeats 4000000 in
theorem brackets_set (s : ByteArray) (h : s.size ≤ 300) (st en : Bool) (x : Nd) (g : Nat) (he : ofP cls (nats s) = .ok st en x g) (hse : st = true ∨ en = true) (w : World) (hM : MaxAt w) : Calls Try.prog 6 #[.string s] w fun e w' => e = .returned (.bool true) ∧ Below w.heap.size w w' := by
  have h1 : ¬ (300 : Int) < s.size := by omega
  have hof := fun w hm => of_walk s w hm
  rw [he] at hof
  have Hof := Lib.hid hof
  clear he hof
  go_enter Try.func6, Try.ntmps6
  go_wp2_with fail
  refine (awake6_any _ hM).mono ?_
  rintro e w1 ⟨rfl, hb1⟩
  have M1 := maxAt_below hM hb1
  have Hb1 := Lib.hid hb1
  clear hb1
  go_wp2_with fail
  refine (Hof.out _ M1).mono ?_
  rintro e w2 ⟨cs, rfl, hat, hb2⟩
  obtain ⟨kq, sq, loq, hiq, nq, aq, lenq, capq, rfl⟩ := at_lit hat
  simp only [patCells, List.cons_append, List.nil_append]
  have Hb2 := Lib.hid (Hb1.out.trans (hb2.mono Hb1.out.size))
  clear hb2 M1 hM hat
  have hcase : (st = true) ∨ (st = false ∧ en = true) := by cases st <;> simp_all
  clear hse
  rcases hcase with rfl | ⟨rfl, rfl⟩
  · go_wp2_with fail
    go_ret
    exact ⟨rfl, Hb2.out.alloc Hb2.out.size _⟩
  · go_wp2_with fail
    go_ret
    exact ⟨rfl, Hb2.out.alloc Hb2.out.size _⟩
set_option maxHeartbeats 8000000 in
theorem brackets_large (s : ByteArray) (h : s.size ≤ 300) (x : Nd) (g : Nat) (he : ofP cls (nats s) = .ok false false x g) (hg : goodP (.mk 6 0 0 0 0 [x]) g = false) (w : World) (hM : MaxAt w) : Calls Try.prog 6 #[.string s] w fun e w' => e = .returned (.bool true) ∧ Below w.heap.size w w' := by
  have h1 : ¬ (300 : Int) < s.size := by omega
  have h2 : (s.size : Int) ≤ 300 := by omega
  have hof := fun w hm => of_walk s w hm
  have hnat : nats ((⟨#[40, 63, 58]⟩ ++ s) ++ ⟨#[41]⟩ : ByteArray) = 40 :: 63 :: 58 :: (nats s ++ [41]) := by rw [nats_add, nats_add]; rfl
  have hof2 := fun w hm => of_walk ((⟨#[40, 63, 58]⟩ ++ s) ++ ⟨#[41]⟩) w hm
  rw [hnat, of_bracket he (by rw [nats_length]; omega), hg] at hof2
  rw [he] at hof
  have Hof := Lib.hid hof
  have Hof2 := Lib.hid hof2
  clear he hof hof2 hnat hg
  go_enter Try.func6, Try.ntmps6
  go_wp2_with fail
  refine (awake6_any _ hM).mono ?_
  rintro e w1 ⟨rfl, hb1⟩
  have M1 := maxAt_below hM hb1
  have Hb1 := Lib.hid hb1
  clear hb1
  go_wp2_with fail
  refine (Hof.out _ M1).mono ?_
  rintro e w2 ⟨cs, rfl, hat, hb2⟩
  obtain ⟨kq, sq, loq, hiq, nq, aq, lenq, capq, rfl⟩ := at_lit hat
  simp only [patCells, List.cons_append, List.nil_append]
  have M2 : Hid (∀ o : Obj, MaxAt (w2.alloc o)) := fun o => maxAt_below M1 (hb2.alloc (by exact hb2.size) o)
  have Hb2 := Lib.hid (Hb1.out.trans (hb2.mono Hb1.out.size))
  have Hat := Lib.hid hat
  clear hb2 M1 hM hat
  go_wp2_with fail
  refine (Hof2.out _ (M2.out _)).mono ?_
  rintro e w3 ⟨rfl, hb3⟩
  have hbx : Below w2.heap.size w2 w3 := ((Below.refl _ _).alloc (Nat.le_refl _) _).trans (hb3.mono (by simp))
  have HB3 : Hid (∀ o : Obj, Below w.heap.size w (w3.alloc o)) := fun o => (Hb2.out.trans (hbx.mono Hb2.out.size)).alloc (by have h1 := Hb2.out.size; have h2 := hbx.size; omega) o
  clear hb3 hbx
  go_wp2_with fail
  go_ret
  exact ⟨rfl, HB3.out _⟩
set_option maxHeartbeats 8000000 in
theorem brackets_good (s : ByteArray) (h : s.size ≤ 300) (x : Nd) (g : Nat) (he : ofP cls (nats s) = .ok false false x g) (hg : goodP (.mk 6 0 0 0 0 [x]) g = true) (w : World) (hM : MaxAt w) : Calls Try.prog 6 #[.string s] w fun e w' => e = .returned (.bool true) ∧ Below w.heap.size w w' := by
  have h1 : ¬ (300 : Int) < s.size := by omega
  have h2 : (s.size : Int) ≤ 300 := by omega
  have hof := fun w hm => of_walk s w hm
  have hnat : nats ((⟨#[40, 63, 58]⟩ ++ s) ++ ⟨#[41]⟩ : ByteArray) = 40 :: 63 :: 58 :: (nats s ++ [41]) := by rw [nats_add, nats_add]; rfl
  have hof2 := fun w hm => of_walk ((⟨#[40, 63, 58]⟩ ++ s) ++ ⟨#[41]⟩) w hm
  rw [hnat, of_bracket he (by rw [nats_length]; omega), hg] at hof2
  rw [he] at hof
  have Hof := Lib.hid hof
  have Hof2 := Lib.hid hof2
  clear he hof hof2 hnat hg
  go_enter Try.func6, Try.ntmps6
  go_wp2_with fail
  refine (awake6_any _ hM).mono ?_
  rintro e w1 ⟨rfl, hb1⟩
  have M1 := maxAt_below hM hb1
  have Hb1 := Lib.hid hb1
  clear hb1
  go_wp2_with fail
  refine (Hof.out _ M1).mono ?_
  rintro e w2 ⟨cs, rfl, hat, hb2⟩
  obtain ⟨kq, sq, loq, hiq, nq, aq, lenq, capq, rfl⟩ := at_lit hat
  simp only [patCells, List.cons_append, List.nil_append]
  have M2 : Hid (∀ o : Obj, MaxAt (w2.alloc o)) := fun o => maxAt_below M1 (hb2.alloc (by exact hb2.size) o)
  have Hb2 := Lib.hid (Hb1.out.trans (hb2.mono Hb1.out.size))
  have Hat := Lib.hid hat
  clear hb2 M1 hM hat
  go_wp2_with fail
  refine (Hof2.out _ (M2.out _)).mono ?_
  rintro e w3 ⟨cs, rfl, hat3, hb3⟩
  rw [at_mk] at hat3
  obtain ⟨_, _, _, _, a3, cap3, rfl, _, hl3⟩ := hat3
  rcases hl3 with hl3 | ⟨b3, off3, rfl, hcap3, hb3l, hn3⟩
  · cases hl3
  obtain ⟨c3, hc3, hcell3, hat3⟩ := nodes_get _ _ _ _ hn3 0 (by simp)
  obtain ⟨k3, s3, lo3, hi3, n3, a3, len3, cap4, rfl⟩ := at_lit hat3
  simp only [patCells, List.cons_append, List.nil_append, List.length_cons, List.length_nil, Nat.zero_add]
  generalize word (0 : BitVec 256) 0 = z0
  generalize word (0 : BitVec 256) 1 = z1
  generalize word (0 : BitVec 256) 2 = z2
  generalize word (0 : BitVec 256) 3 = z3
  have hpx := fun o : Obj => pat_keep (pat_keep (pat_new w2 #[.bool false, .bool false, .int .i64 kq, .int .u64 (word sq 0), .int .u64 (word sq 1), .int .u64 (word sq 2), .int .u64 (word sq 3), .int .i64 loq, .int .i64 hiq, .int .i64 nq, .slice aq lenq capq, .int .i64 g]) hb3) ((Below.refl w3.heap.size w3).alloc (Nat.le_refl _) o)
  have hbx : Below w2.heap.size w2 w3 := ((Below.refl _ _).alloc (Nat.le_refl _) _).trans (hb3.mono (by simp))
  obtain ⟨W4, hW4⟩ : ∃ W4, W4 = w3.alloc (.cells #[.bool false, .bool false, .int .i64 6, .int .u64 (z0 : Nat), .int .u64 (z1 : Nat), .int .u64 (z2 : Nat), .int .u64 (z3 : Nat), .int .i64 0, .int .i64 0, .int .i64 0, .slice (some ⟨b3, off3, none⟩) 1 cap3, .int .i64 g] 33) := ⟨_, rfl⟩
  have hB34 : Below w3.heap.size w3 W4 := by rw [hW4]; exact (Below.refl _ _).alloc (Nat.le_refl _) _
  have hpy : PatIn W4 w3.heap.size #[.bool false, .bool false, .int .i64 6, .int .u64 (z0 : Nat), .int .u64 (z1 : Nat), .int .u64 (z2 : Nat), .int .u64 (z3 : Nat), .int .i64 0, .int .i64 0, .int .i64 0, .slice (some ⟨b3, off3, none⟩) 1 cap3, .int .i64 g] := by rw [hW4]; exact pat_new _ _
  have hpx4 : PatIn W4 w2.heap.size #[.bool false, .bool false, .int .i64 kq, .int .u64 (word sq 0), .int .u64 (word sq 1), .int .u64 (word sq 2), .int .u64 (word sq 3), .int .i64 loq, .int .i64 hiq, .int .i64 nq, .slice aq lenq capq, .int .i64 g] := by rw [hW4]; exact hpx _
  have h9y : ∀ w', Below W4.heap.size W4 w' → Node9 w' b3 off3 [.int .i64 k3, .int .u64 (word s3 0), .int .u64 (word s3 1), .int .u64 (word s3 2), .int .u64 (word s3 3), .int .i64 lo3, .int .i64 hi3, .int .i64 n3, .slice a3 len3 cap4] := fun w' hw' => ⟨rfl, fun q hq => by
    have hh := hcell3 q hq
    rw [Nat.zero_mul, Nat.add_zero] at hh
    rw [hw'.cell (p := ⟨b3, off3 + q, none⟩) (Nat.lt_of_lt_of_le hb3l hB34.size), hB34.cell (p := ⟨b3, off3 + q, none⟩) hb3l]; exact hh⟩
  have hsm : ∀ w', Below W4.heap.size W4 w' → _ := fun w' hw' => same_any x.count x x _ _ w' (Nat.le_refl _) (Nd.at_below hw' (Nat.le_refl _) _ _ (Nd.at_below hB34 (Nat.le_refl _) _ _ hat3)) (Nd.at_below hw' (Nat.le_refl _) _ _ (Nd.at_below hB34 (Nat.le_refl _) _ _ (Nd.at_below hbx (Nat.le_refl _) _ _ Hat.out)))
  rw [Nd.same_refl] at hsm
  have Hsm := Lib.hid hsm
  have HB4 := Lib.hid ((Hb2.out.trans (hbx.mono Hb2.out.size)).trans (hB34.mono (by have h1 := Hb2.out.size; have h2 := hbx.size; omega)))
  have HW4 := Lib.hid hW4
  have hne := Later.nonempty W4
  have hcY : ∀ (Z : Later W4) q, Z.val.cell? ⟨w3.heap.size, q, none⟩ = (#[.bool false, .bool false, .int .i64 6, .int .u64 (z0 : Nat), .int .u64 (z1 : Nat), .int .u64 (z2 : Nat), .int .u64 (z3 : Nat), .int .i64 0, .int .i64 0, .int .i64 0, .slice (some ⟨b3, off3, none⟩) 1 cap3, .int .i64 g] : Array Value)[q]? := fun Z => cells_at (pat_keep hpy Z.ok)
  have hcX : ∀ (Z : Later W4) q, Z.val.cell? ⟨w2.heap.size, q, none⟩ = (#[.bool false, .bool false, .int .i64 kq, .int .u64 (word sq 0), .int .u64 (word sq 1), .int .u64 (word sq 2), .int .u64 (word sq 3), .int .i64 loq, .int .i64 hiq, .int .i64 nq, .slice aq lenq capq, .int .i64 g] : Array Value)[q]? := fun Z => cells_at (pat_keep hpx4 Z.ok)
  have hlX : ∀ w', (∃ Z : Later W4, w' = Z.val) → Node9 w' w2.heap.size 2 _ := fun w' hw' => by obtain ⟨Z, rfl⟩ := hw'; exact node9_pat (pat_keep hpx4 Z.ok)
  have hlY : ∀ w', (∃ Z : Later W4, w' = Z.val) → Node9 w' b3 off3 _ := fun w' hw' => by obtain ⟨Z, rfl⟩ := hw'; exact h9y _ Z.ok
  clear hb3 hn3 hc3 hcell3 hat3 hpx hbx hB34 hpy hpx4 h9y hsm hW4 hb3l hcap3
  go_wp2_with fail
  rw [← HW4.out]
  refine wp_region_eager (.plain 0 (.plain 1 (.plain 2 (.plain 3 (.plain 4 (.plain 5 (.plain 6 (.plain 7 (.plain 8 (.plain 9 (.plain 10 (.plain 11 (.plain 12 (.plain 13 (.plain 14 (.plain 15 (.plain 16 (.plain 17 (.plain 18 (.sole 19 (.plain 20 (.plain 21 (.plain 22 (.plain 23 (.plain 24 (.plain 25 (.plain 26 (.plain 27 (.plain 28 .done))))))))))))))))))))))))))))) (W0 := W4) (Below.refl _ _) (by kernel_rfl) (by kernel_rfl) (fun c a d v w h => by cases d <;> exact h) ?_
  have hcur := (Below.refl W4.heap.size W4).drew
  repeat (first
      | (refine' eager_skip ?_ ?_ ?_
         rotate_left 1
         · simp only [List.getElem?_toArray, List.getElem?_cons_zero, List.getElem?_cons_succ]; exact rfl
         · exact rfl
         simp only [Act.put, List.setIfInBounds_toArray, List.set_cons_zero, List.set_cons_succ])
      | (refine' eager_want ?_ ?_ (fun K hK => ?_)
         rotate_left 1
         · simp only [List.getElem?_toArray, List.getElem?_cons_zero, List.getElem?_cons_succ]; exact rfl
         · exact rfl
         first
         | (refine quiet_load_node _ rfl w2.heap.size 2 _ rfl hlX ?_; refine hK _ ?_; clear hK K; try simp only [Act.put, List.setIfInBounds_toArray, List.set_cons_zero, List.set_cons_succ])
         | (refine quiet_load_node _ rfl b3 off3 _ rfl hlY ?_; refine hK _ ?_; clear hK K; try simp only [Act.put, List.setIfInBounds_toArray, List.set_cons_zero, List.set_cons_succ])
         | (go_big_quiet_op; refine hK _ ?_; clear hK K)))
  refine' eager_call ?_ ?_ (fun K hK => ?_)
  rotate_left 1
  · simp only [List.getElem?_toArray, List.getElem?_cons_zero, List.getElem?_cons_succ]; exact rfl
  · exact rfl
  go_simp
  refine (Hsm.out _ hcur).mono ?_
  rintro e wn ⟨rfl, hb⟩
  refine hK _ _ hb ?_
  replace hcur := hcur.trans (hb.mono hcur.size)
  clear hb hK K
  try simp only [Act.put, List.setIfInBounds_toArray, List.set_cons_zero, List.set_cons_succ]
  repeat (first
      | (refine' eager_skip ?_ ?_ ?_
         rotate_left 1
         · simp only [List.getElem?_toArray, List.getElem?_cons_zero, List.getElem?_cons_succ]; exact rfl
         · exact rfl
         simp only [Act.put, List.setIfInBounds_toArray, List.set_cons_zero, List.set_cons_succ])
      | (refine' eager_want ?_ ?_ (fun K hK => ?_)
         rotate_left 1
         · simp only [List.getElem?_toArray, List.getElem?_cons_zero, List.getElem?_cons_succ]; exact rfl
         · exact rfl
         first
         | (refine quiet_load_node _ rfl w2.heap.size 2 _ rfl hlX ?_; refine hK _ ?_; clear hK K; try simp only [Act.put, List.setIfInBounds_toArray, List.set_cons_zero, List.set_cons_succ])
         | (refine quiet_load_node _ rfl b3 off3 _ rfl hlY ?_; refine hK _ ?_; clear hK K; try simp only [Act.put, List.setIfInBounds_toArray, List.set_cons_zero, List.set_cons_succ])
         | (go_big_quiet_op; refine hK _ ?_; clear hK K)))
  refine eager_done ?_
  go_wp2_with fail
  go_ret
  exact ⟨rfl, HB4.out.trans (hcur.mono HB4.out.size)⟩
theorem brackets_go (s : ByteArray) (h : s.size ≤ 300) (x : Nd) (g : Nat) (he : ofP cls (nats s) = .ok false false x g) (w : World) (hM : MaxAt w) : Calls Try.prog 6 #[.string s] w fun e w' => e = .returned (.bool true) ∧ Below w.heap.size w w' := by
  cases hg : goodP (.mk 6 0 0 0 0 [x]) g with
  | false => exact brackets_large s h x g he hg w hM
  | true => exact brackets_good s h x g he hg w hM
theorem parseBrackets_walk (s : ByteArray) (w : World) (hM : MaxAt w) : Calls Try.prog 6 #[.string s] w fun e w' => e = .returned (.bool true) ∧ Below w.heap.size w w' := by
  by_cases h : 300 < s.size
  · exact brackets_over s h w hM
  cases he : ofP cls (nats s) with
  | err k e => exact brackets_err s (by omega) k e he w hM
  | ok st en x g =>
    cases st with
    | true => exact brackets_set s (by omega) true en x g he (.inl rfl) w hM
    | false =>
      cases en with
      | true => exact brackets_set s (by omega) false true x g he (.inr rfl) w hM
      | false => exact brackets_go s (by omega) x g he w hM
end Go.Proofs.Ytjfenbjamlflcaa
