/- The walk of law 7's PrintSettles. -/
import Derived.Test.YtjkhmmdjgancmaaGreatDoorPrintWhole
namespace Go.Proofs.YtjkhmmdjgancmaaGreatDoor
set_option maxRecDepth 100000
open Go.RowKit
/-- what was parsed is valid -/
theorem of_good {q : List Nat} {st en : Bool} {x : Nd} {g : Nat} (h : ofP cls q = .ok st en x g) : goodP x g = true := by
  unfold ofP at h
  split at h
  · cases h
  split at h
  · cases h
  unfold ofTokens at h
  split at h
  · cases h
  split at h
  · rename_i hg
    injection h with _ _ e3 e4
    subst e3 e4
    exact hg
  · cases h
set_option maxHeartbeats 4000000 in
theorem settles_over (s : ByteArray) (h : 400 < s.size) (w : World) (hT : TabAt 0 Lib.deBruijn64tab w) : Calls Tryz.prog 5 #[.string s] w fun e w' => e = .returned (.bool true) ∧ Below w.heap.size w w' := by
  have h1 : (400 : Int) < s.size := by omega
  go_enter Tryz.func5, Tryz.ntmps5
  go_wp2_with fail
  refine (awake7_any _ hT).mono ?_
  rintro e w1 ⟨rfl, hb1⟩
  go_wp2_with fail
  go_ret
  exact ⟨rfl, hb1⟩
set_option maxHeartbeats 4000000 in
theorem settles_err (s : ByteArray) (h : s.size ≤ 400) (k e0 : Int) (he : ofP cls (nats s) = .err k e0) (w : World) (hT : TabAt 0 Lib.deBruijn64tab w) (hM : MaxAt w) : Calls Tryz.prog 5 #[.string s] w fun e w' => e = .returned (.bool true) ∧ Below w.heap.size w w' := by
  have h1 : ¬ (400 : Int) < s.size := by omega
  have hne := of_err he
  have hof := fun w hm => of_walk s w hm
  rw [he] at hof
  have Hof := Lib.hid hof
  clear he hof
  go_enter Tryz.func5, Tryz.ntmps5
  go_wp2_with fail
  refine (awake7_any _ hT).mono ?_
  rintro e w1 ⟨rfl, hb1⟩
  have M1 := maxAt_below hM hb1
  have Hb1 := Lib.hid hb1
  clear hb1
  go_wp2_with fail
  refine (Hof.out _ M1).mono ?_
  rintro e w2 ⟨rfl, hb2⟩
  have Hb2 := Lib.hid (Hb1.out.trans (hb2.mono Hb1.out.size))
  clear hb2 M1 hM
  go_wp2_with fail
  go_ret
  exact ⟨rfl, Hb2.out.alloc Hb2.out.size _⟩
set_option maxHeartbeats 8000000 in
theorem settles_go (s : ByteArray) (h : s.size ≤ 400) (st en : Bool) (x : Nd) (g : Nat) (he : ofP cls (nats s) = .ok st en x g) (w : World) (hT : TabAt 0 Lib.deBruijn64tab w) (hP : PowAt w) (hM : MaxAt w) :
    Calls Tryz.prog 5 #[.string s] w fun e w' => e = .returned (.bool true) ∧ Below w.heap.size w w' := by
  have h1 : ¬ (400 : Int) < s.size := by omega
  have hg := of_good he
  have hof := fun w hm => of_walk s w hm
  rw [he] at hof
  have Hof := Lib.hid hof
  have HT := Lib.hid (And.intro hT (And.intro hP hM))
  have HG := Lib.hid hg
  clear he hof hT hP hM hg
  go_enter Tryz.func5, Tryz.ntmps5
  go_wp2_with fail
  refine (awake7_any _ HT.out.1).mono ?_
  rintro e w1 ⟨rfl, hb1⟩
  have Hb1 := Lib.hid hb1
  clear hb1
  go_wp2_with fail
  refine (Hof.out _ (maxAt_below HT.out.2.2 Hb1.out)).mono ?_
  rintro e w2 ⟨cs, rfl, hat, hb2⟩
  obtain ⟨kq, sq, loq, hiq, nq, aq, lenq, capq, rfl⟩ := at_lit hat
  simp only [patCells, List.cons_append, List.nil_append]
  have hal : Below w2.heap.size w2 (w2.alloc (.cells #[.bool st, .bool en, .int .i64 kq, .int .u64 (word sq 0), .int .u64 (word sq 1), .int .u64 (word sq 2), .int .u64 (word sq 3), .int .i64 loq, .int .i64 hiq, .int .i64 nq, .slice aq lenq capq, .int .i64 (g : Int)] 36)) := (Below.refl _ _).alloc (Nat.le_refl _) _
  have hpat := pat_new w2 #[.bool st, .bool en, .int .i64 kq, .int .u64 (word sq 0), .int .u64 (word sq 1), .int .u64 (word sq 2), .int .u64 (word sq 3), .int .i64 loq, .int .i64 hiq, .int .i64 nq, .slice aq lenq capq, .int .i64 (g : Int)]
  obtain ⟨W, hW⟩ : ∃ W, W = w2.alloc (.cells #[.bool st, .bool en, .int .i64 kq, .int .u64 (word sq 0), .int .u64 (word sq 1), .int .u64 (word sq 2), .int .u64 (word sq 3), .int .i64 loq, .int .i64 hiq, .int .i64 nq, .slice aq lenq capq, .int .i64 (g : Int)] 36) := ⟨_, rfl⟩
  rw [← hW] at hal hpat
  have hbW := Hb1.out.trans ((hb2.trans (hal.mono hb2.size)).mono Hb1.out.size)
  have htw := text_walk st en (gr := (g : Int)) (Nd.at_below hal (Nat.le_refl _) _ _ hat) (tab_below HT.out.1 hbW (tab_pos HT.out.1)) (pow_below HT.out.2.1 hbW)
  simp only [patCells, List.cons_append, List.nil_append] at htw
  have Htw := Lib.hid htw
  have Hpat := Lib.hid hpat
  have HbW := Lib.hid hbW
  clear hat hb2 hal hpat hbW htw
  go_upto_region 6 with fail
  rw [← hW]
  clear hW
  go_wp2_with (first | (refine wpList_load_pat rfl _ rfl w2.heap.size _ rfl Hpat.out rfl ?_))
  refine Htw.out.mono ?_
  rintro e w3 ⟨⟨t, rfl, ht⟩, hb3⟩
  have Hb3 := Lib.hid (HbW.out.trans (hb3.mono HbW.out.size))
  clear hb3
  by_cases hlen : 1024 < (flagT st en x).length
  · have hto : textOf st en x g = ([], 4) := by unfold textOf; rw [HG.out, if_pos hlen]; rfl
    rw [hto]
    clear hto ht hlen
    go_wp2_with fail
    go_ret
    exact ⟨rfl, Hb3.out⟩
  · have hto : textOf st en x g = (flagT st en x, 0) := by unfold textOf; rw [HG.out, if_neg hlen]; rfl
    rw [hto] at ht ⊢
    obtain ⟨g', hgg, hof2⟩ := text_back HG.out st en (by omega)
    obtain rfl : g' = g := by omega
    have hofw := of_walk t w3 (maxAt_below HT.out.2.2 Hb3.out)
    rw [show nats t = flagT st en x from ht, hof2] at hofw
    have Hofw := Lib.hid hofw
    have Ht := Lib.hid (And.intro (show nats t = flagT st en x from ht) hlen)
    clear hto hgg hof2 hofw ht hlen
    go_wp2_with fail
    refine Hofw.out.mono ?_
    rintro e w4 ⟨cs4, rfl, hat4, hb4⟩
    obtain ⟨k4, s4, lo4, hi4, n4, a4, len4, cap4, rfl⟩ := at_lit hat4
    simp only [patCells, List.cons_append, List.nil_append]
    have hal5 : Below w4.heap.size w4 (w4.alloc (.cells #[.bool st, .bool en, .int .i64 k4, .int .u64 (word s4 0), .int .u64 (word s4 1), .int .u64 (word s4 2), .int .u64 (word s4 3), .int .i64 lo4, .int .i64 hi4, .int .i64 n4, .slice a4 len4 cap4, .int .i64 (g' : Int)] 36)) := (Below.refl _ _).alloc (Nat.le_refl _) _
    have hp5 := pat_new w4 #[.bool st, .bool en, .int .i64 k4, .int .u64 (word s4 0), .int .u64 (word s4 1), .int .u64 (word s4 2), .int .u64 (word s4 3), .int .i64 lo4, .int .i64 hi4, .int .i64 n4, .slice a4 len4 cap4, .int .i64 (g' : Int)]
    obtain ⟨W5, hW5⟩ : ∃ W5, W5 = w4.alloc (.cells #[.bool st, .bool en, .int .i64 k4, .int .u64 (word s4 0), .int .u64 (word s4 1), .int .u64 (word s4 2), .int .u64 (word s4 3), .int .i64 lo4, .int .i64 hi4, .int .i64 n4, .slice a4 len4 cap4, .int .i64 (g' : Int)] 36) := ⟨_, rfl⟩
    rw [← hW5] at hal5 hp5
    have hbw5 := Hb3.out.trans ((hb4.trans (hal5.mono hb4.size)).mono Hb3.out.size)
    have htw5 := text_walk st en (gr := (g' : Int)) (Nd.at_below hal5 (Nat.le_refl _) _ _ hat4) (tab_below HT.out.1 hbw5 (tab_pos HT.out.1)) (pow_below HT.out.2.1 hbw5)
    have hto : textOf st en x g' = (flagT st en x, 0) := by unfold textOf; rw [HG.out, if_neg Ht.out.2]; rfl
    rw [hto] at htw5
    simp only [patCells, List.cons_append, List.nil_append] at htw5
    have Htw5 := Lib.hid htw5
    have Hp5 := Lib.hid hp5
    have Hbw5 := Lib.hid hbw5
    clear hat4 hb4 hal5 hp5 hbw5 htw5 hto
    go_upto_region 12 with fail
    rw [← hW5]
    clear hW5
    go_wp2_with (first | (refine wpList_load_pat rfl _ rfl w4.heap.size _ rfl Hp5.out rfl ?_))
    refine Htw5.out.mono ?_
    rintro e w6 ⟨⟨u, rfl, hu⟩, hb6⟩
    obtain rfl : u = t := of_nats (hu.trans Ht.out.1.symm)
    have Hb6 := Lib.hid (Hbw5.out.trans (hb6.mono Hbw5.out.size))
    clear hb6 hu
    go_wp2_with fail
    go_ret
    exact ⟨rfl, Hb6.out⟩
theorem printSettles_walk (s : ByteArray) (w : World) (hT : TabAt 0 Lib.deBruijn64tab w) (hP : PowAt w) (hM : MaxAt w) : Calls Tryz.prog 5 #[.string s] w fun e w' => e = .returned (.bool true) ∧ Below w.heap.size w w' := by
  by_cases h : 400 < s.size
  · exact settles_over s h w hT
  cases he : ofP cls (nats s) with
  | err k e => exact settles_err s (by omega) k e he w hT hM
  | ok st en x g => exact settles_go s (by omega) st en x g he w hT hP hM
end Go.Proofs.YtjkhmmdjgancmaaGreatDoor
