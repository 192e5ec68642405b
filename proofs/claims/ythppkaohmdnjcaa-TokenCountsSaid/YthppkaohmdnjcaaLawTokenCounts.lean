/- The walk of the law on two numbers in braces. -/
import Derived.Test.YthppkaohmdnjcaaTokenNumText
namespace Go.Proofs.Ythppkaohmdnjcaa
open Go.RowKit
theorem count_one (m : Nat) (hm : m ≤ 2000) : nats (⟨#[123]⟩ ++ ofNats (numText m) ++ ⟨#[125]⟩) = 123 :: (numText m ++ [125]) ∧ (⟨#[123]⟩ ++ ofNats (numText m) ++ ⟨#[125]⟩ : ByteArray).size ≤ 1024 := by
  have h : nats (⟨#[123]⟩ ++ ofNats (numText m) ++ ⟨#[125]⟩) = 123 :: (numText m ++ [125]) := by
    rw [nats_add, nats_add, nats_ofNats _ (numText_lt m)]; rfl
  refine ⟨h, ?_⟩
  rw [← nats_length, h]
  have := numText_len 3 m (by omega)
  simp; omega
theorem count_from (m : Nat) (hm : m ≤ 2000) : nats (⟨#[123]⟩ ++ ofNats (numText m) ++ ⟨#[44, 125]⟩) = 123 :: (numText m ++ [44, 125]) ∧ (⟨#[123]⟩ ++ ofNats (numText m) ++ ⟨#[44, 125]⟩ : ByteArray).size ≤ 1024 := by
  have h : nats (⟨#[123]⟩ ++ ofNats (numText m) ++ ⟨#[44, 125]⟩) = 123 :: (numText m ++ [44, 125]) := by
    rw [nats_add, nats_add, nats_ofNats _ (numText_lt m)]; rfl
  refine ⟨h, ?_⟩
  rw [← nats_length, h]
  have := numText_len 3 m (by omega)
  simp; omega
theorem count_two (m n : Nat) (hm : m ≤ 2000) (hn : n ≤ 2000) : nats (⟨#[123]⟩ ++ ofNats (numText m) ++ ⟨#[44]⟩ ++ ofNats (numText n) ++ ⟨#[125]⟩) = 123 :: (numText m ++ 44 :: (numText n ++ [125])) ∧ (⟨#[123]⟩ ++ ofNats (numText m) ++ ⟨#[44]⟩ ++ ofNats (numText n) ++ ⟨#[125]⟩ : ByteArray).size ≤ 1024 := by
  have h : nats (⟨#[123]⟩ ++ ofNats (numText m) ++ ⟨#[44]⟩ ++ ofNats (numText n) ++ ⟨#[125]⟩) = 123 :: (numText m ++ 44 :: (numText n ++ [125])) := by
    rw [nats_add, nats_add, nats_add, nats_add, nats_ofNats _ (numText_lt m), nats_ofNats _ (numText_lt n)]
    show [123] ++ numText m ++ [44] ++ numText n ++ [125] = _
    simp
  refine ⟨h, ?_⟩
  rw [← nats_length, h]
  have h1 := numText_len 3 m (by omega)
  have h2 := numText_len 3 n (by omega)
  simp; omega
theorem brace_tok (q : List Nat) : tokOf cls 123 q = often q := rfl
theorem cut_brace {q : List Nat} {t : Tok} (h : often q = .ok t []) : cutAll cls (123 :: q) = (none, [(t, 0)]) := cut_one cls 123 q t h
theorem cut_brace_bad {q : List Nat} {e : Nat} (h : often q = .bad e) : cutAll cls (123 :: q) = (some (0, e), []) := cut_bad cls 123 q e h
/-- one token with its bounds, in memory -/
theorem tok_bounds {w : World} {g : Nat} {t : Tok} {a : Int} (h : Tok8 w g 0 t a) : w.cell? ⟨g, 5, none⟩ = some (.int .i64 t.lo) ∧ w.cell? ⟨g, 6, none⟩ = some (.int .i64 t.hi) :=
  ⟨h 5 _ rfl, h 6 _ rfl⟩
set_option maxHeartbeats 4000000 in
set_option maxRecDepth 100000 in
theorem counts_big (m n : Nat) (hm : m ≤ 2000) (hn : n ≤ 2000) (h : 255 < m) (w : World) (hM : MaxAt w) : Calls Try.prog 6 #[.int .u64 m, .int .u64 n] w fun e w' => e = .returned (.bool true) ∧ Below w.heap.size w w' := by
  obtain ⟨a1, a2⟩ := count_one m hm
  obtain ⟨b1, b2⟩ := count_from m hm
  obtain ⟨c1, c2⟩ := count_two m n hm hn
  have oa := often_one m
  have ob := often_from m
  have oc := often_two m n
  have d1 : decide (2000 < (m : Int)) = false := by simp; omega
  have d2 : decide (2000 < (n : Int)) = false := by simp; omega
  have d3 : decide (255 < (m : Int)) = true := by simp; omega
  rw [if_pos h] at oa ob oc
  have hcutA := cut_refused _ a2 _ _ (by rw [a1]; exact cut_brace_bad oa)
  simp only at hcutA
  have hcutB := cut_refused _ b2 _ _ (by rw [b1]; exact cut_brace_bad ob)
  simp only at hcutB
  have hcutC := cut_refused _ c2 _ _ (by rw [c1]; exact cut_brace_bad oc)
  simp only at hcutC
  have hnm := num_any m (by omega)
  have hnn := num_any n (by omega)
  have hX : (ofNats (numText m)).size ≤ 100 := by rw [ofNats_size]; have := numText_len 3 m (by omega); omega
  have hY : (ofNats (numText n)).size ≤ 100 := by rw [ofNats_size]; have := numText_len 3 n (by omega); omega
  clear a1 a2 b1 b2 c1 c2 oa ob oc
  generalize ofNats (numText m) = X at *
  generalize ofNats (numText n) = Y at *
  have B0 : Below w.heap.size w w := Below.refl _ _
  go_enter Try.func6, Try.ntmps6
  go_wp2_with fail
  refine (awake4_any _ hM).mono ?_
  rintro e w1 ⟨rfl, hb1⟩
  have B1 : Below w.heap.size w w1 := B0.trans (hb1.mono B0.size)
  have M1 := maxAt_below hM B1
  go_wp2_with fail
  refine (hnm _).mono ?_
  rintro e w2 ⟨rfl, hb2⟩
  have B2 : Below w.heap.size w w2 := B1.trans (hb2.mono B1.size)
  have M2 := maxAt_below hM B2
  go_wp2_with fail
  refine (hcutA _ M2).mono ?_
  rintro e w3 ⟨rfl, hb3⟩
  have B3 : Below w.heap.size w w3 := B2.trans (hb3.mono B2.size)
  have M3 := maxAt_below hM B3
  go_wp2_with fail
  refine (hnm _).mono ?_
  rintro e w4 ⟨rfl, hb4⟩
  have B4 : Below w.heap.size w w4 := B3.trans (hb4.mono B3.size)
  have M4 := maxAt_below hM B4
  go_wp2_with fail
  refine (hcutB _ M4).mono ?_
  rintro e w5 ⟨rfl, hb5⟩
  have B5 : Below w.heap.size w w5 := B4.trans (hb5.mono B4.size)
  have M5 := maxAt_below hM B5
  go_wp2_with fail
  refine (hnm _).mono ?_
  rintro e w6 ⟨rfl, hb6⟩
  have B6 : Below w.heap.size w w6 := B5.trans (hb6.mono B5.size)
  have M6 := maxAt_below hM B6
  go_wp2_with fail
  refine (hnn _).mono ?_
  rintro e w7 ⟨rfl, hb7⟩
  have B7 : Below w.heap.size w w7 := B6.trans (hb7.mono B6.size)
  have M7 := maxAt_below hM B7
  go_wp2_with fail
  refine (hcutC _ M7).mono ?_
  rintro e w8 ⟨rfl, hb8⟩
  have B8 : Below w.heap.size w w8 := B7.trans (hb8.mono B7.size)
  have M8 := maxAt_below hM B8
  clear hcutA hcutB hcutC hnm hnn
  clear hb1
  clear hb2
  clear hb3
  clear hb4
  clear hb5
  clear hb6
  clear hb7
  clear hb8
  go_wp2_with fail
  all_goals try omega
  go_ret
  exact ⟨rfl, B8⟩
set_option maxHeartbeats 4000000 in
set_option maxRecDepth 100000 in
theorem counts_next (m n : Nat) (hm : m ≤ 2000) (hn : n ≤ 2000) (h : ¬ 255 < m) (h2 : 255 < n) (w : World) (hM : MaxAt w) : Calls Try.prog 6 #[.int .u64 m, .int .u64 n] w fun e w' => e = .returned (.bool true) ∧ Below w.heap.size w w' := by
  obtain ⟨a1, a2⟩ := count_one m hm
  obtain ⟨b1, b2⟩ := count_from m hm
  obtain ⟨c1, c2⟩ := count_two m n hm hn
  have oa := often_one m
  have ob := often_from m
  have oc := often_two m n
  have d1 : decide (2000 < (m : Int)) = false := by simp; omega
  have d2 : decide (2000 < (n : Int)) = false := by simp; omega
  have d3 : decide (255 < (m : Int)) = false := by simp; omega
  have d4 : decide (255 < (n : Int)) = true := by simp; omega
  rw [if_neg h] at oa ob oc
  rw [if_pos h2] at oc
  have hcutA := cut_good _ a2 _ (by rw [a1]; exact cut_brace oa)
  have hcutB := cut_good _ b2 _ (by rw [b1]; exact cut_brace ob)
  have hcutC := cut_refused _ c2 _ _ (by rw [c1]; exact cut_brace_bad oc)
  simp only at hcutC
  have hnm := num_any m (by omega)
  have hnn := num_any n (by omega)
  have hX : (ofNats (numText m)).size ≤ 100 := by rw [ofNats_size]; have := numText_len 3 m (by omega); omega
  have hY : (ofNats (numText n)).size ≤ 100 := by rw [ofNats_size]; have := numText_len 3 n (by omega); omega
  clear a1 a2 b1 b2 c1 c2 oa ob oc
  generalize ofNats (numText m) = X at *
  generalize ofNats (numText n) = Y at *
  obtain ⟨zA, hzA⟩ : ∃ z, z = (⟨#[123]⟩ ++ X ++ ⟨#[125]⟩ : ByteArray).size := ⟨_, rfl⟩
  rw [← hzA] at hcutA
  clear hzA
  obtain ⟨zB, hzB⟩ : ∃ z, z = (⟨#[123]⟩ ++ X ++ ⟨#[44, 125]⟩ : ByteArray).size := ⟨_, rfl⟩
  rw [← hzB] at hcutB
  clear hzB
  have B0 : Below w.heap.size w w := Below.refl _ _
  go_enter Try.func6, Try.ntmps6
  go_wp2_with fail
  refine (awake4_any _ hM).mono ?_
  rintro e w1 ⟨rfl, hb1⟩
  have B1 : Below w.heap.size w w1 := B0.trans (hb1.mono B0.size)
  have M1 := maxAt_below hM B1
  go_wp2_with fail
  refine (hnm _).mono ?_
  rintro e w2 ⟨rfl, hb2⟩
  have B2 : Below w.heap.size w w2 := B1.trans (hb2.mono B1.size)
  have M2 := maxAt_below hM B2
  go_wp2_with fail
  refine (hcutA _ M2).mono ?_
  rintro e w3 ⟨vA, rfl, htA, hb3⟩
  have B3 : Below w.heap.size w w3 := B2.trans (hb3.mono B2.size)
  have M3 := maxAt_below hM B3
  obtain ⟨gA, capA, rfl, hcapA, gAl, tA⟩ := toks_one htA
  clear htA
  go_wp2_with fail
  refine (hnm _).mono ?_
  rintro e w4 ⟨rfl, hb4⟩
  have B4 : Below w.heap.size w w4 := B3.trans (hb4.mono B3.size)
  have M4 := maxAt_below hM B4
  replace tA := tA.below hb4 gAl
  replace gAl := Nat.lt_of_lt_of_le gAl hb4.size
  go_wp2_with fail
  refine (hcutB _ M4).mono ?_
  rintro e w5 ⟨vB, rfl, htB, hb5⟩
  have B5 : Below w.heap.size w w5 := B4.trans (hb5.mono B4.size)
  have M5 := maxAt_below hM B5
  replace tA := tA.below hb5 gAl
  replace gAl := Nat.lt_of_lt_of_le gAl hb5.size
  obtain ⟨gB, capB, rfl, hcapB, gBl, tB⟩ := toks_one htB
  clear htB
  go_wp2_with fail
  refine (hnm _).mono ?_
  rintro e w6 ⟨rfl, hb6⟩
  have B6 : Below w.heap.size w w6 := B5.trans (hb6.mono B5.size)
  have M6 := maxAt_below hM B6
  replace tA := tA.below hb6 gAl
  replace gAl := Nat.lt_of_lt_of_le gAl hb6.size
  replace tB := tB.below hb6 gBl
  replace gBl := Nat.lt_of_lt_of_le gBl hb6.size
  go_wp2_with fail
  refine (hnn _).mono ?_
  rintro e w7 ⟨rfl, hb7⟩
  have B7 : Below w.heap.size w w7 := B6.trans (hb7.mono B6.size)
  have M7 := maxAt_below hM B7
  replace tA := tA.below hb7 gAl
  replace gAl := Nat.lt_of_lt_of_le gAl hb7.size
  replace tB := tB.below hb7 gBl
  replace gBl := Nat.lt_of_lt_of_le gBl hb7.size
  go_wp2_with fail
  refine (hcutC _ M7).mono ?_
  rintro e w8 ⟨rfl, hb8⟩
  have B8 : Below w.heap.size w w8 := B7.trans (hb8.mono B7.size)
  have M8 := maxAt_below hM B8
  replace tA := tA.below hb8 gAl
  replace gAl := Nat.lt_of_lt_of_le gAl hb8.size
  replace tB := tB.below hb8 gBl
  replace gBl := Nat.lt_of_lt_of_le gBl hb8.size
  obtain ⟨kA5, kA6⟩ := tok_bounds tA
  simp only at kA5 kA6
  obtain ⟨kB5, kB6⟩ := tok_bounds tB
  simp only at kB5 kB6
  clear hcutA hcutB hcutC hnm hnn
  clear hb1
  clear hb2
  clear hb3
  clear hb4
  clear hb5
  clear hb6
  clear hb7
  clear hb8
  go_wp2_with fail
  all_goals try omega
  go_ret
  exact ⟨rfl, B8⟩
set_option maxHeartbeats 4000000 in
set_option maxRecDepth 100000 in
theorem counts_less (m n : Nat) (hm : m ≤ 2000) (hn : n ≤ 2000) (h : ¬ 255 < m) (h2 : ¬ 255 < n) (h3 : n < m) (w : World) (hM : MaxAt w) : Calls Try.prog 6 #[.int .u64 m, .int .u64 n] w fun e w' => e = .returned (.bool true) ∧ Below w.heap.size w w' := by
  obtain ⟨a1, a2⟩ := count_one m hm
  obtain ⟨b1, b2⟩ := count_from m hm
  obtain ⟨c1, c2⟩ := count_two m n hm hn
  have oa := often_one m
  have ob := often_from m
  have oc := often_two m n
  have d1 : decide (2000 < (m : Int)) = false := by simp; omega
  have d2 : decide (2000 < (n : Int)) = false := by simp; omega
  have d3 : decide (255 < (m : Int)) = false := by simp; omega
  have d4 : decide (255 < (n : Int)) = false := by simp; omega
  have d5 : decide ((n : Int) < m) = true := by simp; omega
  rw [if_neg h] at oa ob oc
  rw [if_neg h2, if_pos h3] at oc
  have hcutA := cut_good _ a2 _ (by rw [a1]; exact cut_brace oa)
  have hcutB := cut_good _ b2 _ (by rw [b1]; exact cut_brace ob)
  have hcutC := cut_refused _ c2 _ _ (by rw [c1]; exact cut_brace_bad oc)
  simp only at hcutC
  have hnm := num_any m (by omega)
  have hnn := num_any n (by omega)
  have hX : (ofNats (numText m)).size ≤ 100 := by rw [ofNats_size]; have := numText_len 3 m (by omega); omega
  have hY : (ofNats (numText n)).size ≤ 100 := by rw [ofNats_size]; have := numText_len 3 n (by omega); omega
  clear a1 a2 b1 b2 c1 c2 oa ob oc
  generalize ofNats (numText m) = X at *
  generalize ofNats (numText n) = Y at *
  obtain ⟨zA, hzA⟩ : ∃ z, z = (⟨#[123]⟩ ++ X ++ ⟨#[125]⟩ : ByteArray).size := ⟨_, rfl⟩
  rw [← hzA] at hcutA
  clear hzA
  obtain ⟨zB, hzB⟩ : ∃ z, z = (⟨#[123]⟩ ++ X ++ ⟨#[44, 125]⟩ : ByteArray).size := ⟨_, rfl⟩
  rw [← hzB] at hcutB
  clear hzB
  have B0 : Below w.heap.size w w := Below.refl _ _
  go_enter Try.func6, Try.ntmps6
  go_wp2_with fail
  refine (awake4_any _ hM).mono ?_
  rintro e w1 ⟨rfl, hb1⟩
  have B1 : Below w.heap.size w w1 := B0.trans (hb1.mono B0.size)
  have M1 := maxAt_below hM B1
  go_wp2_with fail
  refine (hnm _).mono ?_
  rintro e w2 ⟨rfl, hb2⟩
  have B2 : Below w.heap.size w w2 := B1.trans (hb2.mono B1.size)
  have M2 := maxAt_below hM B2
  go_wp2_with fail
  refine (hcutA _ M2).mono ?_
  rintro e w3 ⟨vA, rfl, htA, hb3⟩
  have B3 : Below w.heap.size w w3 := B2.trans (hb3.mono B2.size)
  have M3 := maxAt_below hM B3
  obtain ⟨gA, capA, rfl, hcapA, gAl, tA⟩ := toks_one htA
  clear htA
  go_wp2_with fail
  refine (hnm _).mono ?_
  rintro e w4 ⟨rfl, hb4⟩
  have B4 : Below w.heap.size w w4 := B3.trans (hb4.mono B3.size)
  have M4 := maxAt_below hM B4
  replace tA := tA.below hb4 gAl
  replace gAl := Nat.lt_of_lt_of_le gAl hb4.size
  go_wp2_with fail
  refine (hcutB _ M4).mono ?_
  rintro e w5 ⟨vB, rfl, htB, hb5⟩
  have B5 : Below w.heap.size w w5 := B4.trans (hb5.mono B4.size)
  have M5 := maxAt_below hM B5
  replace tA := tA.below hb5 gAl
  replace gAl := Nat.lt_of_lt_of_le gAl hb5.size
  obtain ⟨gB, capB, rfl, hcapB, gBl, tB⟩ := toks_one htB
  clear htB
  go_wp2_with fail
  refine (hnm _).mono ?_
  rintro e w6 ⟨rfl, hb6⟩
  have B6 : Below w.heap.size w w6 := B5.trans (hb6.mono B5.size)
  have M6 := maxAt_below hM B6
  replace tA := tA.below hb6 gAl
  replace gAl := Nat.lt_of_lt_of_le gAl hb6.size
  replace tB := tB.below hb6 gBl
  replace gBl := Nat.lt_of_lt_of_le gBl hb6.size
  go_wp2_with fail
  refine (hnn _).mono ?_
  rintro e w7 ⟨rfl, hb7⟩
  have B7 : Below w.heap.size w w7 := B6.trans (hb7.mono B6.size)
  have M7 := maxAt_below hM B7
  replace tA := tA.below hb7 gAl
  replace gAl := Nat.lt_of_lt_of_le gAl hb7.size
  replace tB := tB.below hb7 gBl
  replace gBl := Nat.lt_of_lt_of_le gBl hb7.size
  go_wp2_with fail
  refine (hcutC _ M7).mono ?_
  rintro e w8 ⟨rfl, hb8⟩
  have B8 : Below w.heap.size w w8 := B7.trans (hb8.mono B7.size)
  have M8 := maxAt_below hM B8
  replace tA := tA.below hb8 gAl
  replace gAl := Nat.lt_of_lt_of_le gAl hb8.size
  replace tB := tB.below hb8 gBl
  replace gBl := Nat.lt_of_lt_of_le gBl hb8.size
  obtain ⟨kA5, kA6⟩ := tok_bounds tA
  simp only at kA5 kA6
  obtain ⟨kB5, kB6⟩ := tok_bounds tB
  simp only at kB5 kB6
  clear hcutA hcutB hcutC hnm hnn
  clear hb1
  clear hb2
  clear hb3
  clear hb4
  clear hb5
  clear hb6
  clear hb7
  clear hb8
  go_wp2_with fail
  all_goals try omega
  go_ret
  exact ⟨rfl, B8⟩
set_option maxHeartbeats 4000000 in
set_option maxRecDepth 100000 in
theorem counts_good (m n : Nat) (hm : m ≤ 2000) (hn : n ≤ 2000) (h : ¬ 255 < m) (h2 : ¬ 255 < n) (h3 : ¬ n < m) (w : World) (hM : MaxAt w) : Calls Try.prog 6 #[.int .u64 m, .int .u64 n] w fun e w' => e = .returned (.bool true) ∧ Below w.heap.size w w' := by
  obtain ⟨a1, a2⟩ := count_one m hm
  obtain ⟨b1, b2⟩ := count_from m hm
  obtain ⟨c1, c2⟩ := count_two m n hm hn
  have oa := often_one m
  have ob := often_from m
  have oc := often_two m n
  have d1 : decide (2000 < (m : Int)) = false := by simp; omega
  have d2 : decide (2000 < (n : Int)) = false := by simp; omega
  have d3 : decide (255 < (m : Int)) = false := by simp; omega
  have d4 : decide (255 < (n : Int)) = false := by simp; omega
  have d5 : decide ((n : Int) < m) = false := by simp; omega
  rw [if_neg h] at oa ob oc
  rw [if_neg h2, if_neg h3] at oc
  have hcutA := cut_good _ a2 _ (by rw [a1]; exact cut_brace oa)
  have hcutB := cut_good _ b2 _ (by rw [b1]; exact cut_brace ob)
  have hcutC := cut_good _ c2 _ (by rw [c1]; exact cut_brace oc)
  have hnm := num_any m (by omega)
  have hnn := num_any n (by omega)
  have hX : (ofNats (numText m)).size ≤ 100 := by rw [ofNats_size]; have := numText_len 3 m (by omega); omega
  have hY : (ofNats (numText n)).size ≤ 100 := by rw [ofNats_size]; have := numText_len 3 n (by omega); omega
  clear a1 a2 b1 b2 c1 c2 oa ob oc
  generalize ofNats (numText m) = X at *
  generalize ofNats (numText n) = Y at *
  obtain ⟨zA, hzA⟩ : ∃ z, z = (⟨#[123]⟩ ++ X ++ ⟨#[125]⟩ : ByteArray).size := ⟨_, rfl⟩
  rw [← hzA] at hcutA
  clear hzA
  obtain ⟨zB, hzB⟩ : ∃ z, z = (⟨#[123]⟩ ++ X ++ ⟨#[44, 125]⟩ : ByteArray).size := ⟨_, rfl⟩
  rw [← hzB] at hcutB
  clear hzB
  obtain ⟨zC, hzC⟩ : ∃ z, z = (⟨#[123]⟩ ++ X ++ ⟨#[44]⟩ ++ Y ++ ⟨#[125]⟩ : ByteArray).size := ⟨_, rfl⟩
  rw [← hzC] at hcutC
  clear hzC
  have B0 : Below w.heap.size w w := Below.refl _ _
  go_enter Try.func6, Try.ntmps6
  go_wp2_with fail
  refine (awake4_any _ hM).mono ?_
  rintro e w1 ⟨rfl, hb1⟩
  have B1 : Below w.heap.size w w1 := B0.trans (hb1.mono B0.size)
  have M1 := maxAt_below hM B1
  go_wp2_with fail
  refine (hnm _).mono ?_
  rintro e w2 ⟨rfl, hb2⟩
  have B2 : Below w.heap.size w w2 := B1.trans (hb2.mono B1.size)
  have M2 := maxAt_below hM B2
  go_wp2_with fail
  refine (hcutA _ M2).mono ?_
  rintro e w3 ⟨vA, rfl, htA, hb3⟩
  have B3 : Below w.heap.size w w3 := B2.trans (hb3.mono B2.size)
  have M3 := maxAt_below hM B3
  obtain ⟨gA, capA, rfl, hcapA, gAl, tA⟩ := toks_one htA
  clear htA
  go_wp2_with fail
  refine (hnm _).mono ?_
  rintro e w4 ⟨rfl, hb4⟩
  have B4 : Below w.heap.size w w4 := B3.trans (hb4.mono B3.size)
  have M4 := maxAt_below hM B4
  replace tA := tA.below hb4 gAl
  replace gAl := Nat.lt_of_lt_of_le gAl hb4.size
  go_wp2_with fail
  refine (hcutB _ M4).mono ?_
  rintro e w5 ⟨vB, rfl, htB, hb5⟩
  have B5 : Below w.heap.size w w5 := B4.trans (hb5.mono B4.size)
  have M5 := maxAt_below hM B5
  replace tA := tA.below hb5 gAl
  replace gAl := Nat.lt_of_lt_of_le gAl hb5.size
  obtain ⟨gB, capB, rfl, hcapB, gBl, tB⟩ := toks_one htB
  clear htB
  go_wp2_with fail
  refine (hnm _).mono ?_
  rintro e w6 ⟨rfl, hb6⟩
  have B6 : Below w.heap.size w w6 := B5.trans (hb6.mono B5.size)
  have M6 := maxAt_below hM B6
  replace tA := tA.below hb6 gAl
  replace gAl := Nat.lt_of_lt_of_le gAl hb6.size
  replace tB := tB.below hb6 gBl
  replace gBl := Nat.lt_of_lt_of_le gBl hb6.size
  go_wp2_with fail
  refine (hnn _).mono ?_
  rintro e w7 ⟨rfl, hb7⟩
  have B7 : Below w.heap.size w w7 := B6.trans (hb7.mono B6.size)
  have M7 := maxAt_below hM B7
  replace tA := tA.below hb7 gAl
  replace gAl := Nat.lt_of_lt_of_le gAl hb7.size
  replace tB := tB.below hb7 gBl
  replace gBl := Nat.lt_of_lt_of_le gBl hb7.size
  go_wp2_with fail
  refine (hcutC _ M7).mono ?_
  rintro e w8 ⟨vC, rfl, htC, hb8⟩
  have B8 : Below w.heap.size w w8 := B7.trans (hb8.mono B7.size)
  have M8 := maxAt_below hM B8
  replace tA := tA.below hb8 gAl
  replace gAl := Nat.lt_of_lt_of_le gAl hb8.size
  replace tB := tB.below hb8 gBl
  replace gBl := Nat.lt_of_lt_of_le gBl hb8.size
  obtain ⟨gC, capC, rfl, hcapC, gCl, tC⟩ := toks_one htC
  clear htC
  obtain ⟨kA5, kA6⟩ := tok_bounds tA
  simp only at kA5 kA6
  obtain ⟨kB5, kB6⟩ := tok_bounds tB
  simp only at kB5 kB6
  obtain ⟨kC5, kC6⟩ := tok_bounds tC
  simp only at kC5 kC6
  clear hcutA hcutB hcutC hnm hnn
  clear hb1
  clear hb2
  clear hb3
  clear hb4
  clear hb5
  clear hb6
  clear hb7
  clear hb8
  go_wp2_with fail
  all_goals try omega
  go_ret
  exact ⟨rfl, B8⟩
set_option maxHeartbeats 4000000 in
set_option maxRecDepth 100000 in
theorem counts_over (m n : Nat) (h : 2000 < m ∨ 2000 < n) (w : World) (hM : MaxAt w) : Calls Try.prog 6 #[.int .u64 m, .int .u64 n] w fun e w' => e = .returned (.bool true) ∧ Below w.heap.size w w' := by
  have Hh := Lib.hid h
  clear h
  go_enter Try.func6, Try.ntmps6
  go_wp2_with fail
  refine (awake4_any _ hM).mono ?_
  rintro e w1 ⟨rfl, hb1⟩
  go_wp2_with fail
  all_goals first
    | (go_ret; exact ⟨rfl, hb1⟩)
    | (exfalso; have := Hh.out; omega)
theorem tokenCounts_walk (m : Nat) (_ : m < 18446744073709551616) (n : Nat) (_ : n < 18446744073709551616) (w : World) (hM : MaxAt w) : Calls Try.prog 6 #[.int .u64 m, .int .u64 n] w fun e w' => e = .returned (.bool true) ∧ Below w.heap.size w w' := by
  by_cases h : 2000 < m ∨ 2000 < n
  · exact counts_over m n h w hM
  · have hm : m ≤ 2000 := by omega
    have hn : n ≤ 2000 := by omega
    by_cases h1 : 255 < m
    · exact counts_big m n hm hn h1 w hM
    · by_cases h2 : 255 < n
      · exact counts_next m n hm hn h1 h2 w hM
      · by_cases h3 : n < m
        · exact counts_less m n hm hn h1 h2 h3 w hM
        · exact counts_good m n hm hn h1 h2 h3 w hM
end Go.Proofs.Ythppkaohmdnjcaa
