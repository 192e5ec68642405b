/- The walks of block.alike and block.Of. -/
import Derived.Test.YtnhlopbpggdneaaDoorBlockMem
import Derived.Deep.LoopGhost
namespace Go.Proofs.YtnhlopbpggdneaaDoor
open Go.RowKit

/-- what the loop of alike holds: the result's block, the gathering block g -/
def InAlike (w wr : World) (g : Nat) (s : BitVec 256) : Prop := SetAt wr w.heap.size 0 ∧ SetAt wr g s ∧ Below w.heap.size w wr ∧ w.heap.size < g
set_option maxHeartbeats 2000000 in
theorem alike_any (a : Option Addr) (n cap : Nat) (L : List (BitVec 256)) (b : Nat) (hb : b < 256) (w : World) (hl : SetsAt w a n cap L) :
    Calls Tryd.prog 24 #[.slice a n cap, .int .u8 b] w fun e w' => e = .returned (SV (alike L b)) ∧ Below w.heap.size w w' := by
  obtain ⟨hn, hmax, hcells⟩ := hl
  have Hn := Lib.hid hn
  clear hn
  unfold maxLen at hmax
  go_enter Tryd.func24, Tryd.ntmps24
  go_wp2_with (first
    | (go_at_call 11; refine (all_any _).mono ?_; rintro e w1 ⟨rfl, hb1⟩)
    | (refine wpList_store_set rfl _ _ rfl w1.heap.size 0 _ rfl rfl (setAt_new _) ?_; intro w2 hs2 ho2))
  have hz1 : w.heap.size < w1.heap.size := by have := hb1.size; simp at this; omega
  have hW1 : Below w.heap.size w w1 := ((Below.refl _ _).alloc (Nat.le_refl _) _).trans (hb1.mono (by simp))
  have hst : InAlike w w2 w1.heap.size (alike (L.take 0) b) :=
    ⟨ho2.setAt (by omega) (setAt_alloc (setAt_below (setAt_new w) hb1 (by simp)) _), hs2, ho2.below (hW1.alloc (by omega) _) (by omega), hz1⟩
  clear hs2 ho2 hW1 hb1
  generalize w1.heap.size = g at hst hz1 ⊢
  go_loopw [11] (fun i wr => ∃ k : Nat, k ≤ n ∧ i = .int .i64 k ∧ InAlike w wr g (alike (L.take k) b)) (fun i _ => n - (intOf i).toNat)
  case atStart => exact ⟨0, by omega, rfl, hst⟩
  case round =>
    clear hst
    obtain ⟨k, hk, rfl, hr1, hr2, hr3, hr4⟩ := hrel
    by_cases hkn : k < n
    · rcases hcells with h0 | ⟨bb, off, rfl, hcap, hbw, hcells⟩
      · omega
      · have hd : decide ((k : Int) < n) = true := by simp; omega
        obtain ⟨s, hs⟩ : ∃ s, s = L.getD k 0 := ⟨_, rfl⟩
        have hkl : k < L.length := by rw [← Hn.out]; exact hkn
        have hnext : L.take (k + 1) = L.take k ++ [s] := by rw [List.take_succ_eq_append_getElem hkl, hs, List.getD_eq_getElem?_getD, List.getElem?_eq_getElem hkl]; rfl
        have hstep := Lib.hid (alike_snoc (L.take k) s b)
        rw [← hnext] at hstep
        have hc : Set4 wr bb (off + k * 4) s := by rw [hs]; exact (hcells k hkn).below hr3 hbw
        have hglt := setAt_lt hr2
        have Hs := Lib.hid hs
        clear hcells hs hnext
        have hrr : g < wr.heap.size + 1 := by omega
        by_cases hsb : s.getLsbD b = true
        · have hhas := has_any s b hb
          rw [hsb] at hhas hstep
          rw [if_pos rfl] at hstep
          go_wp2_with (first
            | (refine wpList_load_set rfl _ rfl bb (off + k * 4) s rfl hc ?_)
            | (refine wpList_load_set rfl _ rfl wr.heap.size 0 s rfl hs3.four ?_)
            | (refine wpList_load_set rfl _ rfl wr.heap.size 0 s rfl hs4.four ?_)
            | (refine wpList_load_set rfl _ rfl g 0 (alike (L.take k) b) rfl hg4.four ?_)
            | (refine wpList_store_set rfl _ _ rfl wr.heap.size 0 s rfl rfl (setAt_new _) ?_; intro w3 hs3 ho3; have hg3 := ho3.setAt (by omega) (setAt_alloc hr2 _); have hz3 := ho3.size; have hn3 := ho3.below (hr3.alloc hr3.size _) hr3.size; have h03 := ho3.setAt (by omega) (setAt_alloc hr1 _); simp at hz3)
            | (go_at_call 19; refine (hhas _).mono ?_; rintro e w4 ⟨rfl, hb4⟩; have hs4 := setAt_below hs3 hb4 (by omega); have hg4 := setAt_below hg3 hb4 (by omega); have h04 := setAt_below h03 hb4 (by omega); have hz4 := hb4.size; have hn4 := hn3.trans (hb4.mono (by have := hr3.size; omega)))
            | (go_at_call 22; refine (and_any _ _ _).mono ?_; rintro e w5 ⟨rfl, hb5⟩; have hg5 := setAt_below hg4 hb5 (by omega); have h05 := setAt_below h04 hb5 (by omega); have hn5 := hn4.trans (hb5.mono (by have := hr3.size; omega)))
            | (refine wpList_store_set rfl _ _ rfl g _ _ rfl rfl hg5 ?_; intro w6 hs6 ho6; have h06 := ho6.setAt (by omega) h05; have hn6 := ho6.below hn5 (by omega)))
          go_roundw
          case rel => exact ⟨k + 1, by omega, by go_num, h06, by rw [hstep.out]; exact hs6, hn6, hr4⟩
          case measure => simp [intOf]; omega
        · have hhas := has_any s b hb
          replace hsb : s.getLsbD b = false := by simpa using hsb
          rw [hsb] at hhas hstep
          rw [if_neg (by simp)] at hstep
          go_wp2_with (first
            | (refine wpList_load_set rfl _ rfl bb (off + k * 4) s rfl hc ?_)
            | (refine wpList_load_set rfl _ rfl wr.heap.size 0 s rfl hs3.four ?_)
            | (refine wpList_load_set rfl _ rfl wr.heap.size 0 s rfl hs4.four ?_)
            | (refine wpList_load_set rfl _ rfl g 0 (alike (L.take k) b) rfl hg4.four ?_)
            | (refine wpList_store_set rfl _ _ rfl wr.heap.size 0 s rfl rfl (setAt_new _) ?_; intro w3 hs3 ho3; have hg3 := ho3.setAt (by omega) (setAt_alloc hr2 _); have hz3 := ho3.size; have hn3 := ho3.below (hr3.alloc hr3.size _) hr3.size; have h03 := ho3.setAt (by omega) (setAt_alloc hr1 _); simp at hz3)
            | (go_at_call 19; refine (hhas _).mono ?_; rintro e w4 ⟨rfl, hb4⟩; have hs4 := setAt_below hs3 hb4 (by omega); have hg4 := setAt_below hg3 hb4 (by omega); have h04 := setAt_below h03 hb4 (by omega); have hz4 := hb4.size; have hn4 := hn3.trans (hb4.mono (by have := hr3.size; omega)))
            | (go_at_call 25; refine (minus_any _ _ _).mono ?_; rintro e w5 ⟨rfl, hb5⟩; have hg5 := setAt_below hg4 hb5 (by omega); have h05 := setAt_below h04 hb5 (by omega); have hn5 := hn4.trans (hb5.mono (by have := hr3.size; omega)))
            | (refine wpList_store_set rfl _ _ rfl g _ _ rfl rfl hg5 ?_; intro w6 hs6 ho6; have h06 := ho6.setAt (by omega) h05; have hn6 := ho6.below hn5 (by omega)))
          go_roundw
          case rel => exact ⟨k + 1, by omega, by go_num, h06, by rw [hstep.out]; exact hs6, hn6, hr4⟩
          case measure => simp [intOf]; omega
    · obtain rfl : k = n := by omega
      have hd : decide ((k : Int) < k) = false := by simp
      have ht : L.take k = L := List.take_of_length_le (by rw [Hn.out]; exact Nat.le_refl _)
      rw [ht] at hr2
      clear hcells ht
      go_wp2_with (first
        | (refine wpList_load_set rfl _ rfl g 0 (alike L b) rfl hr2.four ?_)
        | (refine wpList_store_set rfl _ _ rfl w.heap.size 0 _ rfl rfl hr1 ?_; intro w6 hs6 ho6; have hn6 := ho6.below hr3 (Nat.le_refl _)))
      exact bodyPost_ret (v := SV (alike L b)) (results_set Tryd.results24 _ _ w.heap.size _ rfl hs6) rfl ⟨rfl, hn6⟩
def boolOf : Value → Bool | .bool b => b | _ => false
def leftOf (x y : Value) : Nat := if boolOf y then 257 - (intOf x).toNat else 0
/-- what the loop of Of holds -/
def InBlocks (w : World) (g : Nat) (L : List (BitVec 256)) (v x y : Value) (wr : World) : Prop :=
  ∃ (k : Nat) (r : BitVec 256), k ≤ 256 ∧ Remain L k r ∧ SetAt wr g r ∧ x = .int .u8 ((elems r).headD 0 : Nat) ∧ y = .bool (!(elems r).isEmpty) ∧
    wr.ownsRow (g + 1) 27 4 v (partsTo L k).length (setCells (partsTo L k)) ∧ Below w.heap.size w wr ∧ w.heap.size ≤ g
theorem ends_in {w wr : World} {g : Nat} {L : List (BitVec 256)} {k : Nat} {v : Value} (he : headsTo L 256 = headsTo L k) (hown : wr.ownsRow (g + 1) 27 4 v (partsTo L k).length (setCells (partsTo L k))) (hb : Below w.heap.size w wr) (hg : w.heap.size ≤ g) :
    SetsRow w (partsOf L) (.returned v) wr := by
  have e : partsTo L k = partsOf L := by unfold partsOf partsTo; rw [he]
  rw [e] at hown
  obtain ⟨a, cap, rfl⟩ := owns_form hown
  obtain ⟨h1, h2⟩ := setsAt_of_owns hown
  exact ⟨a, cap, rfl, h1, hb, fun x hx => ⟨by have := (h2 x hx).1; omega, (h2 x hx).2⟩⟩
set_option maxHeartbeats 2000000 in
theorem blockOf_any (a : Option Addr) (n cap : Nat) (L : List (BitVec 256)) (w : World) (hl : SetsAt w a n cap L) (hT : TabAt 0 Lib.deBruijn64tab w) :
    Calls Tryd.prog 9 #[.slice a n cap] w (SetsRow w (partsOf L)) := by
  obtain ⟨i0, hi, hz0, hz1, hz2⟩ := info_parts info_set
  go_enter Tryd.func9, Tryd.ntmps9
  go_wp2_with (first
    | (go_at_call 11; refine (all_any _).mono ?_; rintro e w1 ⟨rfl, hb1⟩)
    | (refine wpList_store_set rfl _ _ rfl w1.heap.size 0 _ rfl rfl (setAt_new _) ?_; intro w2 hs2 ho2; have hn2 := ho2.below (hb1.alloc hb1.size _) hb1.size; have hT2 := tab_below hT hn2 (tab_pos hT); have hz2' := ho2.size; simp at hz2')
    | (refine wpList_load_set rfl _ rfl w1.heap.size 0 _ rfl hs2.four ?_)
    | (go_at_call 23; refine (least_any _ _ hT2).mono ?_; rintro e w3 ⟨rfl, hb3⟩; have hs3 := setAt_below hs2 hb3 (by omega); have hn3 := hn2.trans (hb3.mono hn2.size)))
  have hst : InBlocks w w1.heap.size L (.slice none 0 0) (.int .u8 ((elems (BitVec.allOnes 256)).headD 0 : Nat)) (.bool (!(elems (BitVec.allOnes 256)).isEmpty)) w3 :=
    ⟨0, BitVec.allOnes 256, by omega, remain_zero L, hs3, rfl, rfl, World.ownsRow_nil _ _ _ _, hn3, hb1.size⟩
  clear hs2 hs3 ho2 hn2 hb3 hn3 hT2 hz2' hb1
  generalize w1.heap.size = g at hst ⊢
  clear w1
  go_loopw [3, 5, 6] (fun v x y wr => InBlocks w g L v x y wr) (fun _ x y _ => leftOf x y)
  case atStart => exact hst
  case round =>
    clear hst
    obtain ⟨k, r, hk, hr, hg, rfl, rfl, hown, hb, hg0⟩ := hrel
    cases he : elems r with
    | nil =>
      have hfin := Lib.hid (ends_in (head_end hk hr he) hown hb hg0)
      simp only [List.headD_nil, List.isEmpty_nil, Bool.not_true]
      clear hown
      go_wp2_with fail
      go_ret
      exact hfin.out
    | cons b l =>
      simp only [List.headD_cons, List.isEmpty_cons, Bool.not_false]
      obtain ⟨hkb, hb256, hheads, hrem⟩ := head_step hr he
      have hparts := Lib.hid (partsTo_step hheads)
      have hplen := partsTo_len L k
      have Hrem := Lib.hid hrem
      have Hsets := Lib.hid (hl.below hb rfl)
      have Hown := Lib.hid hown
      have hgb := setAt_lt hg
      have Hx := Lib.hid (fun P (e : setCells [P] = [.int .u64 (word P 0 : Int), .int .u64 (word P 1 : Int), .int .u64 (word P 2 : Int), .int .u64 (word P 3 : Int)]) => e)
      obtain ⟨P, hP⟩ : ∃ P, P = alike L b := ⟨_, rfl⟩
      have hal := alike_any a n cap L b hb256 wr Hsets.out
      rw [← hP] at hal hparts hrem
      have HP := Lib.hid hP
      clear hP hr he hheads hown hrem Hx
      generalize hpre : partsTo L k = pre at hparts hplen Hown
      clear hpre
      go_wp2_with (first
        | (go_at_call 24; refine hal.mono ?_; rintro e w4 ⟨rfl, hb4⟩; have hg4 := setAt_below hg hb4 hgb; have Hown4 := Lib.hid (owns_below Hown.out hb4); have hn4 := hb.trans (hb4.mono hb.size); have hz4 := hb4.size)
        | (refine wpList_store_set rfl _ _ rfl w4.heap.size 0 P rfl rfl (setAt_new _) ?_; intro w5 hs5 ho5; have hg5 := ho5.setAt (by omega) (setAt_alloc hg4 _); have Hown5 := Lib.hid (ho5.owns (Hown4.out.alloc _) (own_ne_new Hown4.out (Nat.le_refl _))); have hn5 := ho5.below (hn4.alloc hn4.size _) hn4.size; have Hz5 := Lib.hid ho5.size)
        | (refine wpList_load_set rfl _ rfl w4.heap.size 0 P rfl hs5.four ?_)
        | (at_builtin; refine wpList_append_own _ rfl _ _ 23 rfl (g + 1) 27 i0 (.agg #[.int .u64 0, .int .u64 0, .int .u64 0, .int .u64 0]) 4 32 Tryd.underlying23 hi hz0 hz1 hz2 rfl (by decide) _ _ _ rfl (Hown5.out.alloc _) ⟨w5.heap.size, 0, none⟩ 1 1 [.int .u64 (word P 0 : Int), .int .u64 (word P 1 : Int), .int .u64 (word P 2 : Int), .int .u64 (word P 3 : Int)] rfl rfl ?c1 ?c2 ?c3 ?c4 ?c5 ?_))
      case c1 => exact sets_four _ _ _ _ _ _
      case c2 => intro u hu; simp at hu; rcases hu with rfl | rfl | rfl | rfl <;> rfl
      case c3 => unfold maxLen; omega
      case c4 => omega
      case c5 => have := Hz5.out; simp at this; simp; omega
      intro v' w6 hown6 hgrow _
      have Hg6 := Lib.hid ((setAt_alloc hg5 _).grown hgrow (own_ne_low Hown5.out (by omega)))
      have Hs6 := Lib.hid ((setAt_alloc hs5 _).grown hgrow (own_ne_new Hown4.out (Nat.le_refl _)))
      have hn6 := (hn5.alloc hn5.size _).grown hgrow (by have := hn5.size; simp; omega) (fun k hk => by have := (Hown5.out.lt k hk).1; omega)
      have Hown6 := Lib.hid hown6
      have hg6 := Hg6.out
      have hs6 := Hs6.out
      clear hown6 hgrow hg5 hs5 hg4 Hown5 Hown4 ho5 hn5 hn4 Hg6 Hs6 Hown hal
      go_wp2_with (first
        | (refine wpList_load_set rfl _ rfl g 0 r rfl hg6.four ?_)
        | (refine wpList_load_set rfl _ rfl w4.heap.size 0 P rfl hs6.four ?_)
        | (go_at_call 25; refine (minus_any _ _ _).mono ?_; rintro e w7 ⟨rfl, hb7⟩; have hg7 := setAt_below hg6 hb7 (setAt_lt hg6); have Hown7 := Lib.hid (owns_below Hown6.out hb7); have hn7 := hn6.trans (hb7.mono hn6.size))
        | (refine wpList_store_set rfl _ _ rfl g _ _ rfl rfl hg7 ?_; intro w8 hs8 ho8; have Hown8 := Lib.hid (ho8.owns Hown7.out (own_ne_low Hown7.out (by omega))); have hn8 := ho8.below hn7 hg0; have hT8 := tab_below hT hn8 (tab_pos hT))
        | (refine wpList_load_set rfl _ rfl g 0 (r &&& ~~~P) rfl hs8.four ?_)
        | (go_at_call 23; refine (least_any _ _ hT8).mono ?_; rintro e w9 ⟨rfl, hb9⟩; have hg9 := setAt_below hs8 hb9 (setAt_lt hs8); have Hown9 := Lib.hid (owns_below Hown8.out hb9); have hn9 := hn8.trans (hb9.mono hn8.size)))
      go_roundw
      case rel =>
        refine ⟨b + 1, r &&& ~~~P, by omega, by rw [HP.out]; exact Hrem.out, hg9, by simp, rfl, ?_, hn9, hg0⟩
        rw [hparts.out, setCells_append, List.length_append]
        exact Hown9.out
      case measure =>
        cases he' : elems (r &&& ~~~P) with
        | nil => simp [leftOf, boolOf, intOf]; omega
        | cons b' l' =>
          have hr' : Remain L (b + 1) (r &&& ~~~P) := by rw [HP.out]; exact Hrem.out
          have := (head_step hr' he').1
          have := (head_step hr' he').2.1
          simp [leftOf, boolOf, intOf]; omega
end Go.Proofs.YtnhlopbpggdneaaDoor
