/- The walk of law 7's PrintSets. -/
import Derived.Test.YtjkhmmdjgancmaaDoorPrintWhole
namespace Go.Proofs.YtjkhmmdjgancmaaDoor
set_option maxRecDepth 100000
open Go.RowKit
theorem good_one (s : BitVec 256) (h : s ≠ 0) : goodP (.mk 1 s 0 0 0 []) 0 = true := by
  have hf : (Nd.mk 1 s 0 0 0 []).form 1 = some 1 := by
    rw [form_mk, if_pos (by simp [fieldsOk]; exact h), if_neg (by decide), forms_nil]
  unfold goodP
  rw [hf, count_mk, deep_mk]
  simp [counts, deeps]
theorem set_back (s : BitVec 256) (h : s ≠ 0) : ofP cls (setT s) = .ok false false (.mk 1 s 0 0 0 []) 0 := by
  have e : flagT false false (.mk 1 s 0 0 0 []) = setT s := by
    unfold flagT
    rw [txt_mk]
    simp
  obtain ⟨g, hg, hof⟩ := text_back (good_one s h) false false (by rw [e]; have := setT_len s; omega)
  obtain rfl : g = 0 := by omega
  rw [e] at hof
  exact hof
set_option maxHeartbeats 4000000 in
theorem printSets_walk (s : BitVec 256) (w : World) (hT : TabAt 0 Lib.deBruijn64tab w) (hM : MaxAt w) : Calls Tryd.prog 3 #[SV s] w fun e w' => e = .returned (.bool true) ∧ Below w.heap.size w w' := by
  obtain ⟨n, hn⟩ : ∃ n, n = (elems s).length := ⟨_, rfl⟩
  have hlen := len_any s
  rw [← hn] at hlen
  have heq := fun w => eql_set s s w
  rw [show decide (s = s) = true from by simp] at heq
  have HN := Lib.hid hn
  have Hlen := Lib.hid hlen
  have HT := Lib.hid (And.intro hT hM)
  obtain ⟨W, hW⟩ : ∃ W, W = w.alloc (.cells #[.int .u64 (word s 0), .int .u64 (word s 1), .int .u64 (word s 2), .int .u64 (word s 3)] 24) := ⟨_, rfl⟩
  have hbox : SetAt W w.heap.size s := by rw [hW]; exact setAt_made w s
  have hal : Below w.heap.size w W := by rw [hW]; exact (Below.refl _ _).alloc (Nat.le_refl _) _
  have Hbox := Lib.hid hbox
  have Hal := Lib.hid hal
  clear hn hlen hT hM hbox hal
  go_enter Tryd.func3, Tryd.ntmps3
  go_upto_region 1 with fail
  rw [← hW]
  clear hW
  go_wp2_with fail
  refine (awake7_any _ (tab_below HT.out.1 Hal.out (tab_pos HT.out.1))).mono ?_
  rintro e w1 ⟨rfl, hb1⟩
  have Hb1 := Lib.hid (Hal.out.trans (hb1.mono Hal.out.size))
  have Hs1 := Lib.hid (setAt_below Hbox.out hb1 (setAt_lt Hbox.out))
  clear hb1 Hbox
  go_wp2_with (first | (refine wpList_load_set rfl _ rfl w.heap.size 0 s rfl Hs1.out.four ?_))
  refine (Hlen.out _).mono ?_
  rintro e w2 ⟨rfl, hb2⟩
  have Hb2 := Lib.hid (Hb1.out.trans (hb2.mono Hb1.out.size))
  have Hs2 := Lib.hid (setAt_below Hs1.out hb2 (setAt_lt Hs1.out))
  clear hb2
  have HT2 := Lib.hid (tab_below HT.out.1 Hb2.out (tab_pos HT.out.1))
  by_cases h0 : n = 0
  · have e0 : ((n : Int) == 0) = true := by simp [h0]
    have HE := Lib.hid (show setT s = [] from by unfold setT; rw [if_pos (by rw [← HN.out]; exact h0)])
    clear h0
    go_wp2_with (first | (refine wpList_load_set rfl _ rfl w.heap.size 0 s rfl Hs2.out.four ?_))
    refine (set_walk s _ HT2.out).mono ?_
    rintro e w3 ⟨⟨t, rfl, ht⟩, hb3⟩
    rw [HE.out] at ht
    obtain rfl : t = ⟨#[]⟩ := of_nats ht
    have Hb3 := Lib.hid (Hb2.out.trans (hb3.mono Hb2.out.size))
    clear hb3 ht
    go_wp2_with fail
    go_ret
    exact ⟨rfl, Hb3.out⟩
  · have e0 : ((n : Int) == 0) = false := by simp; omega
    have hs0 : s ≠ 0 := by
      rintro rfl
      have : elems (0 : BitVec 256) = [] := by decide +kernel
      rw [this] at HN
      exact h0 HN.out
    have hback := set_back s hs0
    have Hback := Lib.hid hback
    clear h0 hs0 hback
    go_wp2_with (first | (refine wpList_load_set rfl _ rfl w.heap.size 0 s rfl Hs2.out.four ?_))
    refine (set_walk s _ HT2.out).mono ?_
    rintro e w3 ⟨⟨t, rfl, ht⟩, hb3⟩
    have Hb3 := Lib.hid (Hb2.out.trans (hb3.mono Hb2.out.size))
    have Hs3 := Lib.hid (setAt_below Hs2.out hb3 (setAt_lt Hs2.out))
    have hofw := of_walk t w3 (maxAt_below HT.out.2 Hb3.out)
    rw [ht, Hback.out] at hofw
    have Hofw := Lib.hid hofw
    clear hb3 ht hofw
    go_wp2_with fail
    refine Hofw.out.mono ?_
    rintro e w4 ⟨cs4, rfl, hat4, hb4⟩
    rw [at_mk] at hat4
    obtain ⟨_, _, _, _, a4, cap4, rfl, _, _⟩ := hat4
    simp only [patCells, List.cons_append, List.nil_append]
    have Hs4 := Lib.hid (setAt_below Hs3.out hb4 (setAt_lt Hs3.out))
    have Hb4 := Lib.hid (Hb3.out.trans (hb4.mono Hb3.out.size))
    clear hb4
    obtain ⟨W5, hW5⟩ : ∃ W5, W5 = w4.alloc (.cells #[.bool false, .bool false, .int .i64 1, .int .u64 (word s 0), .int .u64 (word s 1), .int .u64 (word s 2), .int .u64 (word s 3), .int .i64 0, .int .i64 0, .int .i64 0, .slice a4 0 cap4, .int .i64 0] 32) := ⟨_, rfl⟩
    have hp5 : PatIn W5 w4.heap.size #[.bool false, .bool false, .int .i64 1, .int .u64 (word s 0), .int .u64 (word s 1), .int .u64 (word s 2), .int .u64 (word s 3), .int .i64 0, .int .i64 0, .int .i64 0, .slice a4 0 cap4, .int .i64 0] := by rw [hW5]; exact pat_new w4 _
    have hal5 : Below w4.heap.size w4 W5 := by rw [hW5]; exact (Below.refl _ _).alloc (Nat.le_refl _) _
    have hs5 := setAt_below Hs4.out hal5 (setAt_lt Hs4.out)
    have Hb5 := Lib.hid (Hb4.out.trans (hal5.mono Hb4.out.size))
    have p0 : W5.cell? ⟨w4.heap.size, 0, none⟩ = some (.bool false) := by rw [cells_at hp5]; rfl
    have p1 : W5.cell? ⟨w4.heap.size, 1, none⟩ = some (.bool false) := by rw [cells_at hp5]; rfl
    have p2 : W5.cell? ⟨w4.heap.size, 2, none⟩ = some (.int .i64 1) := by rw [cells_at hp5]; rfl
    have p3 : W5.cell? ⟨w4.heap.size, 3, none⟩ = some (.int .u64 (word s 0)) := by rw [cells_at hp5]; rfl
    have p4 : W5.cell? ⟨w4.heap.size, 4, none⟩ = some (.int .u64 (word s 1)) := by rw [cells_at hp5]; rfl
    have p5 : W5.cell? ⟨w4.heap.size, 5, none⟩ = some (.int .u64 (word s 2)) := by rw [cells_at hp5]; rfl
    have p6 : W5.cell? ⟨w4.heap.size, 6, none⟩ = some (.int .u64 (word s 3)) := by rw [cells_at hp5]; rfl
    have q0 := hs5.cell 0 (by decide)
    have q1 := hs5.cell 1 (by decide)
    have q2 := hs5.cell 2 (by decide)
    have q3 := hs5.cell 3 (by decide)
    clear hp5 hal5 hs5
    go_upto_region 6 with fail
    simp only [List.length_nil] at *
    rw [← hW5]
    clear hW5
    go_wp2_with fail
    go_ret
    exact ⟨rfl, Hb5.out⟩
end Go.Proofs.YtjkhmmdjgancmaaDoor
