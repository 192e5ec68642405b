/- The walk of law 6's ParseFlags. -/
import Derived.Test.YtjfenbjamlflcaaParseWhole
namespace Go.Proofs.Ytjfenbjamlflcaa
set_option maxRecDepth 100000
open Go.RowKit
set_option maxHeartbeats 4000000 in
theorem flags_over (s : ByteArray) (h : 300 < s.size) (w : World) (hM : MaxAt w) : Calls Try.prog 8 #[.string s] w fun e w' => e = .returned (.bool true) ∧ Below w.heap.size w w' := by
  have h1 : (300 : Int) < s.size := by omega
  go_enter Try.func8, Try.ntmps8
  go_wp2_with fail
  refine (awake6_any _ hM).mono ?_
  rintro e w1 ⟨rfl, hb1⟩
  go_wp2_with fail
  go_ret
  exact ⟨rfl, hb1⟩
set_option maxHeartbeats 4000000 in
theorem flags_err (s : ByteArray) (h : s.size ≤ 300) (k e0 : Int) (he : ofP cls (nats s) = .err k e0) (w : World) (hM : MaxAt w) : Calls Try.prog 8 #[.string s] w fun e w' => e = .returned (.bool true) ∧ Below w.heap.size w w' := by
  have h1 : ¬ (300 : Int) < s.size := by omega
  have hne := of_err he
  have hof := fun w hm => of_walk s w hm
  rw [he] at hof
  have Hof := Lib.hid hof
  clear he hof
  go_enter Try.func8, Try.ntmps8
  go_wp2_with fail
  refine (awake6_any _ hM).mono ?_
  rintro e w1 ⟨rfl, hb1⟩
  have M1 := maxAt_below hM hb1
  have Hb1 := Lib.hid hb1
  clear hb1
  go_wp2_with fail
  refine (Hof.out _ M1).mono ?_
  rintro e w2 ⟨rfl, hb2⟩
  have Hb2 := Lib.hid (Hb1.out.trans (hb2.mono Hb1.out.size))
  clear hb2 M1 hM
  go_wp2_with fail
  go_ret
  exact ⟨rfl, Hb2.out.alloc Hb2.out.size _⟩
set_option maxHeartbeats 4000000 in
theorem flags_set (s : ByteArray) (h : s.size ≤ 300) (st en : Bool) (x : Nd) (g : Nat) (he : ofP cls (nats s) = .ok st en x g) (hse : st = true ∨ en = true) (w : World) (hM : MaxAt w) : Calls Try.prog 8 #[.string s] w fun e w' => e = .returned (.bool true) ∧ Below w.heap.size w w' := by
  have h1 : ¬ (300 : Int) < s.size := by omega
  have hof := fun w hm => of_walk s w hm
  rw [he] at hof
  have Hof := Lib.hid hof
  clear he hof
  go_enter Try.func8, Try.ntmps8
  go_wp2_with fail
  refine (awake6_any _ hM).mono ?_
  rintro e w1 ⟨rfl, hb1⟩
  have M1 := maxAt_below hM hb1
  have Hb1 := Lib.hid hb1
  clear hb1
  go_wp2_with fail
  refine (Hof.out _ M1).mono ?_
  rintro e w2 ⟨cs, rfl, hat, hb2⟩
  obtain ⟨kq, sq, loq, hiq, nq, aq, lenq, capq, rfl⟩ := at_lit hat
  simp only [patCells, List.cons_append, List.nil_append]
  have Hb2 := Lib.hid (Hb1.out.trans (hb2.mono Hb1.out.size))
  clear hb2 M1 hM hat
  have hcase : (st = true) ∨ (st = false ∧ en = true) := by cases st <;> simp_all
  clear hse
  rcases hcase with rfl | ⟨rfl, rfl⟩
  · go_wp2_with fail
    go_ret
    exact ⟨rfl, Hb2.out.alloc Hb2.out.size _⟩
  · go_wp2_with fail
    go_ret
    exact ⟨rfl, Hb2.out.alloc Hb2.out.size _⟩
set_option maxHeartbeats 8000000 in
theorem flags_go (s : ByteArray) (h : s.size ≤ 300) (x : Nd) (g : Nat) (he : ofP cls (nats s) = .ok false false x g) (w : World) (hM : MaxAt w) : Calls Try.prog 8 #[.string s] w fun e w' => e = .returned (.bool true) ∧ Below w.heap.size w w' := by
  have h1 : ¬ (300 : Int) < s.size := by omega
  have h2 : (s.size : Int) ≤ 300 := by omega
  have hof := fun w hm => of_walk s w hm
  have hnat : nats ((⟨#[94]⟩ ++ s) ++ ⟨#[36]⟩ : ByteArray) = 94 :: (nats s ++ [36]) := by rw [nats_add, nats_add]; rfl
  have hsz : ((⟨#[94]⟩ ++ s) ++ ⟨#[36]⟩ : ByteArray).size = s.size + 2 := by rw [size_of_nats hnat]; simp [nats_length]
  have hof2 := fun w hm => of_walk ((⟨#[94]⟩ ++ s) ++ ⟨#[36]⟩) w hm
  rw [hnat, of_flags he (by rw [nats_length]; omega), hsz] at hof2
  rw [he] at hof
  have Hof := Lib.hid hof
  have Hof2 := Lib.hid hof2
  clear he hof hof2 hsz hnat
  go_enter Try.func8, Try.ntmps8
  go_wp2_with fail
  refine (awake6_any _ hM).mono ?_
  rintro e w1 ⟨rfl, hb1⟩
  have M1 := maxAt_below hM hb1
  have Hb1 := Lib.hid hb1
  clear hb1
  go_wp2_with fail
  refine (Hof.out _ M1).mono ?_
  rintro e w2 ⟨cs, rfl, hat, hb2⟩
  obtain ⟨kq, sq, loq, hiq, nq, aq, lenq, capq, rfl⟩ := at_lit hat
  simp only [patCells, List.cons_append, List.nil_append]
  have M2 : Hid (∀ o : Obj, MaxAt (w2.alloc o)) := fun o => maxAt_below M1 (hb2.alloc (by exact hb2.size) o)
  have Hb2 := Lib.hid (Hb1.out.trans (hb2.mono Hb1.out.size))
  have Hat := Lib.hid hat
  clear hb2 M1 hM hat
  go_wp2_with fail
  refine (Hof2.out _ (M2.out _)).mono ?_
  rintro e w3 ⟨cs, rfl, hat3, hb3⟩
  obtain ⟨k3, s3, lo3, hi3, n3, a3, len3, cap3, rfl⟩ := at_lit hat3
  simp only [patCells, List.cons_append, List.nil_append]
  have hx3 := fun o : Obj => (pat_keep (pat_new w2 #[.bool false, .bool false, .int .i64 kq, .int .u64 (word sq 0), .int .u64 (word sq 1), .int .u64 (word sq 2), .int .u64 (word sq 3), .int .i64 loq, .int .i64 hiq, .int .i64 nq, .slice aq lenq capq, .int .i64 g]) hb3 |> fun h => pat_keep h ((Below.refl w3.heap.size w3).alloc (Nat.le_refl _) o))
  have hgx := fun o : Obj => pat_groups (hx3 o)
  have hnx := fun o : Obj => node9_pat (hx3 o)
  have hny := node9_pat (pat_new w3 #[.bool true, .bool true, .int .i64 k3, .int .u64 (word s3 0), .int .u64 (word s3 1), .int .u64 (word s3 2), .int .u64 (word s3 3), .int .i64 lo3, .int .i64 hi3, .int .i64 n3, .slice a3 len3 cap3, .int .i64 g])
  have hbx : Below w2.heap.size w2 w3 := ((Below.refl _ _).alloc (Nat.le_refl _) _).trans (hb3.mono (by simp))
  have hsm := fun o : Obj => same_any x.count x x _ _ (w3.alloc o) (Nat.le_refl _) (Nd.at_below ((Below.refl w3.heap.size w3).alloc (Nat.le_refl _) o) (Nat.le_refl _) _ _ hat3) (Nd.at_below (hbx.alloc hbx.size o) (Nat.le_refl _) _ _ Hat.out)
  rw [Nd.same_refl] at hsm
  have HB3 : Hid (∀ o : Obj, Below w.heap.size w (w3.alloc o)) := fun o => (Hb2.out.trans (hbx.mono Hb2.out.size)).alloc (by have h1 := Hb2.out.size; have h2 := hbx.size; omega) o
  have Hsm := Lib.hid hsm
  have Hnx := Lib.hid hnx
  have Hny := Lib.hid hny
  clear hb3 hat3 hx3 hbx hsm hnx hny
  go_wp2_with (first
    | (refine wpList_load_node_want rfl _ rfl w3.heap.size 2 _ rfl Hny.out ?_)
    | (refine wpList_load_node_want rfl _ rfl w2.heap.size 2 _ rfl (Hnx.out _) ?_)
    | (go_at_call 16; refine (Hsm.out _).mono ?_; rintro e w4 ⟨rfl, hb4⟩; have Hb4 := Lib.hid hb4; clear hb4)
    | fail)

  go_ret
  exact ⟨rfl, (HB3.out _).trans (Hb4.out.mono (HB3.out _).size)⟩
theorem parseFlags_walk (s : ByteArray) (w : World) (hM : MaxAt w) : Calls Try.prog 8 #[.string s] w fun e w' => e = .returned (.bool true) ∧ Below w.heap.size w w' := by
  by_cases h : 300 < s.size
  · exact flags_over s h w hM
  cases he : ofP cls (nats s) with
  | err k e => exact flags_err s (by omega) k e he w hM
  | ok st en x g =>
    cases st with
    | true => exact flags_set s (by omega) true en x g he (.inl rfl) w hM
    | false =>
      cases en with
      | true => exact flags_set s (by omega) false true x g he (.inr rfl) w hM
      | false => exact flags_go s (by omega) x g he w hM
end Go.Proofs.Ytjfenbjamlflcaa
