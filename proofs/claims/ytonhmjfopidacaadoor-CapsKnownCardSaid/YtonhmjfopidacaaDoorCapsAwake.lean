/- Closed calls of caps.Of and caps.Text; law 12's awake. -/
import Derived.Test.YtonhmjfopidacaaDoorCapsText
import Derived.Test.YtonhmjfopidacaaDoorCapsWords
import Derived.Test.YtonhmjfopidacaaDoorValMore
namespace Go.Proofs.YtonhmjfopidacaaDoor
namespace V
set_option maxRecDepth 100000
open Go.RowKit
theorem of_eq {c : K.Cr} {v : Vl} {cs ds : List Value} {w : World} (hc : K.Cr.at w c cs) (hv : Vl.at w v ds) {at_ n : Int} {l : Sl} {b : Int} (h : ofSp c v at_ n = l ∧ ofErr c v at_ n = b) :
    Calls Tryd.prog 13 #[.agg cs.toArray, .agg ds.toArray, .int .i64 at_, .int .i64 n] w (SpPost w l b) := by
  obtain ⟨rfl, rfl⟩ := h
  exact of_any hc hv at_ n
theorem text_eq12 {l : Sl} {a : Option Addr} {cap' : Nat} {w : World} (h : SpAt w a cap' l) (hP : PowAt w) {t : ByteArray} (ht : (decide (slT l = nats t) && decide (l.length ≤ 1000) && l.all fun q => decide (-9223372036854775808 ≤ q.1) && decide (q.1 ≤ 9223372036854775807) && decide (-9223372036854775808 ≤ q.2) && decide (q.2 ≤ 9223372036854775807)) = true) :
    Calls Tryd.prog 23 #[.slice a l.length cap'] w fun e w' => e = .returned (.string t) ∧ Below w.heap.size w w' := by
  simp only [Bool.and_eq_true, decide_eq_true_eq, List.all_eq_true] at ht
  obtain ⟨⟨h1, h2⟩, h3⟩ := ht
  have hf : ∀ n : Int, -9223372036854775808 ≤ n → n ≤ 9223372036854775807 → fits64 n := fun n a b => by
    show (decide (-9223372036854775808 ≤ n) && decide (n ≤ 9223372036854775807)) = true
    rw [decide_eq_true a, decide_eq_true b]; rfl
  refine (text_any (by omega) (fun q hq => ?_) h hP).mono ?_
  · obtain ⟨⟨⟨g1, g2⟩, g3⟩, g4⟩ := h3 q hq
    exact ⟨hf _ g1 g2, hf _ g3 g4⟩
  · rintro e w' ⟨⟨u, rfl, hu⟩, hb⟩
    exact ⟨by rw [of_nats (hu.trans h1)], hb⟩
def bA : BitVec 256 := setOf [97]
def bB : BitVec 256 := setOf [98]
set_option maxHeartbeats 16000000 in
theorem awake12_any (w : World) (hP : PowAt w) : Calls Tryd.prog 8 #[] w fun e w' => e = .returned (.bool true) ∧ Below w.heap.size w w' := by
  have HP := Lib.hid hP
  clear hP
  go_enter Tryd.func8, Tryd.ntmps8
  go_wp2_with fail
  refine (ch_eq (s := bA) (bytes_lit w [97] #[.int .u8 97] rfl (by decide) (by decide)) rfl).mono ?_
  rintro e w2 ⟨z2, rfl, hat2, hb2⟩
  obtain ⟨k2, s2, n2, a2, len2, cap2, rfl⟩ := K.at_lit hat2
  have H2 := Lib.hid (And.intro hat2 ((K.alloc_below w _).trans (hb2.mono (by simp))))
  clear hat2 hb2
  go_wp2_with fail
  refine (K.grp_walk 1 rfl H2.out.1).mono ?_
  rintro e w3 ⟨z3, rfl, hat3, hb3⟩
  obtain ⟨k3, s3, n3, a3, len3, cap3, rfl⟩ := K.at_lit hat3
  have H3 := Lib.hid (And.intro hat3 (H2.out.2.trans (hb3.mono H2.out.2.size)))
  clear hat3 hb3
  go_wp2_with fail
  refine (ch_eq (s := bB) (bytes_lit w3 [98] #[.int .u8 98] rfl (by decide) (by decide)) rfl).mono ?_
  rintro e w4 ⟨z4, rfl, hat4, hb4⟩
  obtain ⟨k4, s4, n4, a4, len4, cap4, rfl⟩ := K.at_lit hat4
  have hb4' := (K.alloc_below w3 _).trans (hb4.mono (by simp))
  have H4 := Lib.hid (And.intro hat4 (And.intro (K.Cr.at_below hb4' (Nat.le_refl _) _ _ H3.out.1) (H3.out.2.trans (hb4'.mono H3.out.2.size))))
  clear hat4 hb4 hb4'
  go_wp2_with fail
  refine (K.alt_walk H4.out.2.1 H4.out.1).mono ?_
  rintro e w5 ⟨z5, rfl, hat5, hb5⟩
  obtain ⟨k5, s5, n5, a5, len5, cap5, rfl⟩ := K.at_lit hat5
  have H5 := Lib.hid (And.intro hat5 (H4.out.2.2.trans (hb5.mono H4.out.2.2.size)))
  clear hat5 hb5
  go_wp2_with fail
  refine (byt_walk 98 (by decide) w5).mono ?_
  rintro e w6 ⟨z6, rfl, hat6, hb6⟩
  obtain ⟨k6, y6, a6, len6, cap6, rfl⟩ := at_lit hat6
  have H6 := Lib.hid (And.intro hat6 (And.intro (K.Cr.at_below hb6 (Nat.le_refl _) _ _ H5.out.1) (H5.out.2.trans (hb6.mono H5.out.2.size))))
  clear hat6 hb6
  go_wp2_with fail
  refine (right_walk H6.out.1).mono ?_
  rintro e w7 ⟨z7, rfl, hat7, hb7⟩
  obtain ⟨k7, y7, a7, len7, cap7, rfl⟩ := at_lit hat7
  have H7 := Lib.hid (And.intro hat7 (And.intro (K.Cr.at_below hb7 (Nat.le_refl _) _ _ H6.out.2.1) (H6.out.2.2.trans (hb7.mono H6.out.2.2.size))))
  clear hat7 hb7
  go_wp2_with fail
  refine (of_eq (l := [(0, 1), (-1, -1)]) (b := 0) H7.out.2.1 H7.out.1 (by decide +kernel)).mono ?_
  rintro e w8 ⟨a8, cap8, rfl, hsp8, hb8⟩
  have H8 := Lib.hid (And.intro hsp8 (H7.out.2.2.trans (hb8.mono H7.out.2.2.size)))
  clear hsp8 hb8
  go_wp2_with fail
  refine (text_eq12 (t := ⟨#[40, 48, 44, 49, 41, 32, 45]⟩) H8.out.1 (pow_below HP.out H8.out.2) (by decide +kernel)).mono ?_
  rintro e w9 ⟨rfl, hb9⟩
  have H9 := Lib.hid (H8.out.2.trans (hb9.mono H8.out.2.size))
  clear hb9
  go_wp2_with fail
  go_ret
  exact ⟨rfl, H9.out⟩
end V
end Go.Proofs.YtonhmjfopidacaaDoor
