/- ValWalks, ValMeas, ValSame, ValFlat, as one. -/
import Derived.Test.YtkekdfelcfoilaaValKit
import Derived.Deep.LoopGhost
import Derived.Test.YtkekdfelcfoilaaOpenBytes
import Derived.Test.YtkekdfelcfoilaaTreeOps
import Derived.Test.YtkekdfelcfoilaaLater
import Derived.Test.YtkekdfelcfoilaaText
namespace Go.Proofs.Ytkekdfelcfoilaa
namespace V
set_option maxRecDepth 100000
open Go.RowKit
/-- what counts of a value's list -/
def cntd : Vl → List Vl
  | .mk k _ l => l.take (cntN k l.length)
theorem cntd_mk (k : Int) (z : Nat) (l : List Vl) : cntd (.mk k z l) = l.take (cntN k l.length) := rfl
theorem cntd_counts (x : Vl) : counts (cntd x) < x.count := by
  cases x with
  | mk k z l => rw [cntd_mk, count_mk]; have := counts_take_le l (cntN k l.length); omega
theorem listAt_take {w : World} {l : List Vl} {a : Option Addr} {cap : Nat} (hmax : l.length ≤ maxLen) (hl : l.length = 0 ∨ ∃ b off, a = some ⟨b, off, none⟩ ∧ l.length ≤ cap ∧ b < w.heap.size ∧ valsAt w l b off) {n : Nat} (hn : n ≤ l.length) :
    ListAt w (l.take n) (.slice a n cap) := by
  have hlen : (l.take n).length = n := by simp; omega
  refine ⟨a, cap, by rw [hlen], by omega, ?_⟩
  rcases hl with hl | ⟨b, off, e1, e2, e3, e4⟩
  · left; omega
  · exact .inr ⟨b, off, e1, by omega, e3, valsAt_take l n off e4⟩
theorem counted_all {x : Vl} {cs : List Value} {w : World} (hat : Vl.at w x cs) :
    Calls Try.prog 28 #[.agg cs.toArray] w fun e w' => ∃ v, e = .returned v ∧ (∀ W, Vl.at W x cs → ListAt W (cntd x) v) ∧ Below w.heap.size w w' := by
  obtain ⟨k, z, l⟩ := x
  rw [at_mk] at hat
  obtain ⟨_, _, a, cap, rfl, hmax, hl⟩ := hat
  rw [cntd_mk]
  have hnil : ∀ n, n = 0 → ∀ W, Vl.at W (.mk k z l) [.int .i64 k, .int .u8 z, .slice a l.length cap] → ListAt W (l.take n) (.slice none 0 0) := fun n h _ _ => by subst h; exact ⟨none, 0, rfl, by simp, .inl rfl⟩
  have htake : ∀ n, n ≤ l.length → ∀ W, Vl.at W (.mk k z l) [.int .i64 k, .int .u8 z, .slice a l.length cap] → ListAt W (l.take n) (.slice a n cap) := fun n h W hW => by
    rw [at_mk] at hW
    obtain ⟨_, _, a', cap', he, hmax, hl⟩ := hW
    injection he with _ he
    injection he with _ he
    injection he with he
    injection he with e1 _ e2
    subst e1 e2
    exact listAt_take hmax hl h
  have Htake := Lib.hid htake
  have Hnil := Lib.hid hnil
  have hcap : l.length ≤ cap ∨ l.length = 0 := by rcases hl with hl | ⟨_, _, _, h, _⟩ <;> omega
  have hmx : (l.length : Int) ≤ 9223372036854775807 := by unfold maxLen at hmax; omega
  have hcap2 : l.length ≤ cap := by omega
  clear hl htake hnil hmax hcap
  generalize hn : l.length = n at *
  by_cases h3 : k = 3
  · subst h3
    rw [show cntN 3 n = min 2 n from rfl]
    by_cases h2 : n < 2
    · have hz : decide ((n : Int) < 2) = true := by simp; omega
      have e : min 2 n = n := by omega
      rw [e]
      go_enter Try.func28, Try.ntmps28
      go_wp2_with fail
      all_goals first
        | (go_ret
           exact ⟨_, rfl, Htake.out n (Nat.le_refl _), (Below.refl _ _).alloc (Nat.le_refl _) _⟩)
        | (exfalso; omega)
    · have e : min 2 n = 2 := by omega
      rw [e]
      go_enter Try.func28, Try.ntmps28
      go_wp2_with fail
      all_goals first
        | (exfalso; omega)
        | (go_ret
           exact ⟨_, rfl, Htake.out 2 (by omega), (Below.refl _ _).alloc (Nat.le_refl _) _⟩)
  by_cases h4 : k = 4 ∨ k = 5 ∨ k = 7
  · rw [show cntN k n = min 1 n from by unfold cntN; rw [if_neg h3, if_pos h4]]
    clear h3
    by_cases h2 : n < 1
    · have e : min 1 n = n := by omega
      rw [e]
      rcases h4 with rfl | rfl | rfl <;> (
        go_enter Try.func28, Try.ntmps28
        go_wp2_with fail
        all_goals first
          | (go_ret
             exact ⟨_, rfl, Htake.out n (Nat.le_refl _), (Below.refl _ _).alloc (Nat.le_refl _) _⟩)
          | (exfalso; omega))
    · have e : min 1 n = 1 := by omega
      rw [e]
      rcases h4 with rfl | rfl | rfl <;> (
        go_enter Try.func28, Try.ntmps28
        go_wp2_with fail
        all_goals first
          | (exfalso; omega)
          | (go_ret
             exact ⟨_, rfl, Htake.out 1 (by omega), (Below.refl _ _).alloc (Nat.le_refl _) _⟩))
  by_cases h6 : k = 6
  · subst h6
    rw [show cntN 6 n = n from rfl]
    go_enter Try.func28, Try.ntmps28
    go_wp2_with fail
    go_ret
    exact ⟨_, rfl, Htake.out n (Nat.le_refl _), (Below.refl _ _).alloc (Nat.le_refl _) _⟩
  · rw [show cntN k n = 0 from by unfold cntN; rw [if_neg h3, if_neg h4, if_neg h6]]
    have e3 : (k == 3) = false := by simp [h3]
    have e4 : (k == 4) = false := by simp; omega
    have e5 : (k == 5) = false := by simp; omega
    have e7 : (k == 7) = false := by simp; omega
    have e6 : (k == 6) = false := by simp [h6]
    clear h3 h4 h6
    go_enter Try.func28, Try.ntmps28
    go_wp2_with fail
    go_ret
    exact ⟨_, rfl, Hnil.out 0 rfl, (Below.refl _ _).alloc (Nat.le_refl _) _⟩
theorem counted_walk {x : Vl} {cs : List Value} {w : World} (hat : Vl.at w x cs) :
    Calls Try.prog 28 #[.agg cs.toArray] w fun e w' => ∃ v, e = .returned v ∧ ListAt w (cntd x) v ∧ Below w.heap.size w w' :=
  (counted_all hat).mono fun _ _ ⟨v, h1, h2, h3⟩ => ⟨v, h1, h2 w hat, h3⟩
/-! Size -/
theorem size_cntd (x : Vl) : x.size = 1 + ((cntd x).map Vl.size).sum := by
  cases x with
  | mk k z l => rw [size_mk]; rfl
theorem sum_take_le (l : List Vl) (f : Vl → Nat) (j : Nat) : ((l.take j).map f).sum ≤ (l.map f).sum := by
  have h : l.map f = (l.take j).map f ++ (l.drop j).map f := by rw [← List.map_append, List.take_append_drop]
  rw [h, List.sum_append]; omega
mutual
theorem size_le : ∀ x : Vl, x.size ≤ x.count
  | .mk k z l => by
    rw [size_mk, count_mk]
    have h1 := sizes_le l
    have h2 : ((l.take (cntN k l.length)).map Vl.size).sum ≤ (l.map Vl.size).sum := by
      exact sum_take_le l Vl.size _
    omega
theorem sizes_le : ∀ l : List Vl, (l.map Vl.size).sum ≤ counts l
  | [] => by simp
  | x :: l => by
    have := size_le x
    have := sizes_le l
    rw [List.map_cons, List.sum_cons, counts_cons]; omega
end
theorem sum_take_succ (l : List Vl) (f : Vl → Nat) (j : Nat) (hj : j < l.length) : ((l.take (j + 1)).map f).sum = ((l.take j).map f).sum + f l[j] := by
  rw [List.take_succ_eq_append_getElem hj, List.map_append, List.sum_append]; simp
end V
end Go.Proofs.Ytkekdfelcfoilaa
namespace Go.Proofs.Ytkekdfelcfoilaa
namespace V
set_option maxRecDepth 100000
open Go.RowKit
theorem meas_cntd {x : Vl} (h : x.kind ≠ 2) : x.meas = ((cntd x).map Vl.meas).foldl (stepM x.kind) (0, true) := by
  cases x with
  | mk k z l => rw [meas_mk, if_neg (show ¬ k = 2 from h)]; rfl
theorem fold_take_succ (k : Int) (l : List Vl) (j : Nat) (hj : j < l.length) : ((l.take (j + 1)).map Vl.meas).foldl (stepM k) (0, true) = stepM k (((l.take j).map Vl.meas).foldl (stepM k) (0, true)) l[j].meas := by
  rw [List.take_succ_eq_append_getElem hj, List.map_append, List.foldl_append]; rfl
set_option maxHeartbeats 4000000 in
theorem meas_any : ∀ (m : Nat) (x : Vl) (cs : List Value) (w : World), x.count ≤ m → Vl.at w x cs →
    Calls Try.prog 24 #[.agg cs.toArray] w fun e w' => e = .returned (.tuple #[.int .i64 x.meas.1, .bool x.meas.2]) ∧ Below w.heap.size w w'
  | 0, x, _, _, h, _ => absurd (Vl.count_pos x) (by omega)
  | m + 1, x, cs, w, hm, hat => by
    have hcnt := fun w' (h : Below w.heap.size w w') => counted_walk (Vl.at_below h (Nat.le_refl _) _ _ hat)
    have hlt := cntd_counts x
    have hbox : Val3 (w.alloc (.cells cs.toArray 25)) w.heap.size 0 cs := val3_in (World.alloc_heap_new w _) (at_len hat)
    have hcnt := hcnt _ ((Below.refl _ _).alloc (Nat.le_refl _) (.cells cs.toArray 25))
    have hLm : counts (cntd x) ≤ m := by omega
    have hLx : (cntd x).length ≤ 9223372036854775807 := by
      cases x with
      | mk k z l => rw [at_mk] at hat; obtain ⟨_, _, _, _, _, hmax, _⟩ := hat; rw [cntd_mk, List.length_take]; unfold maxLen at hmax; omega
    have hmeas := meas_cntd (x := x)
    have hcells := at_cells hat
    obtain ⟨k, z, l⟩ := x
    obtain ⟨a0, cap0, _, hcs⟩ := hcells
    simp only [Vl.kind, Vl.byte, Vl.nodes] at hcs hmeas
    by_cases h2 : k = 2
    · subst h2
      rw [show (Vl.mk 2 z l).meas = (1, true) from by rw [meas_mk, if_pos rfl]]
      subst hcs
      clear hcnt hlt hbox hLm hLx hat hm hmeas
      go_enter Try.func24, Try.ntmps24
      go_wp2_with fail
      go_ret2
      exact ⟨rfl, (Below.refl _ _).alloc (Nat.le_refl _) _⟩
    · rw [hmeas h2]
      clear hmeas
      generalize cntd (.mk k z l) = L at *
      obtain ⟨R, hR⟩ : ∃ R, R = (L.map Vl.meas).foldl (stepM k) (0, true) := ⟨_, rfl⟩
      rw [← hR]
      have HR := Lib.hid hR
      have ih := meas_any m
      have Hih := Lib.hid ih
      have HLm := Lib.hid hLm
      have e2 : (k == 2) = false := by simp [h2]
      obtain ⟨b6, hb6⟩ : ∃ b, (k != 6) = b := ⟨_, rfl⟩
      have Hb6 := Lib.hid hb6
      generalize hln : l.length = ln at *
      subst hcs
      clear ih hat hlt hm hLm hR h2 hln
      go_enter Try.func24, Try.ntmps24
      go_wp2_with (first
        | (refine wpList_load_val rfl _ rfl w.heap.size 0 _ rfl hbox ?_)
        | (go_at_call 28; refine hcnt.mono ?_; rintro e w1 ⟨v, rfl, ⟨a, cap, rfl, hmax, hl⟩, hb1⟩; have Hb1 := Lib.hid hb1; have Hl := Lib.hid hl; clear hb1 hcnt hl hmax)
        | fail)
      go_loopw [2, 3, 14] (fun n f i wr => ∃ (j : Nat) (s : Int) (g : Bool), i = .int .i64 j ∧ n = .int .i64 s ∧ f = .bool g ∧ j ≤ L.length ∧ Hid ((s, g) = ((L.take j).map Vl.meas).foldl (stepM k) (0, true)) ∧ Hid (Below w1.heap.size w1 wr)) (fun _ _ i _ => L.length - (intOf i).toNat)
      case atStart => exact ⟨0, 0, true, rfl, rfl, rfl, Nat.zero_le _, Lib.hid (by simp), Lib.hid (Below.refl _ _)⟩
      case round =>
        obtain ⟨j, s, g, rfl, rfl, rfl, hj, hS, hB⟩ := hrel
        have HBw : Hid (Below w.heap.size w wr) := Lib.hid ((((Below.refl _ _).alloc (Nat.le_refl _) _).trans (Hb1.out.mono (by simp))).trans (hB.out.mono (by have := Hb1.out.size; simp at this; omega)))
        by_cases hjl : j < L.length
        · have hdj : decide ((j : Int) < L.length) = true := by simp; omega
          rcases Hl.out with hl0 | ⟨b, off, ha, hcap, hbw, hnodes⟩
          · omega
          · obtain ⟨ds, hcell, hchild⟩ := vals_get _ b L off hnodes j hjl
            have hbe0 := ((Hb1.out.trans (hB.out.mono Hb1.out.size)))
            have h9 : Val3 wr b (off + j * 3) ds := hcell.below hbw hbe0
            have hat9 : Vl.at wr L[j] ds := Vl.at_below hbe0 (Nat.le_refl _) _ _ hchild
            have hbx : Val3 wr w.heap.size 0 [.int .i64 k, .int .u8 z, .slice a0 ln cap0] := hbox.below (by simp) hbe0
            have hcj : L[j].count ≤ m := Nat.le_trans (counts_mem (List.getElem_mem hjl)) HLm.out
            have h10 : Val3 (wr.alloc (.cells ds.toArray 25)) wr.heap.size 0 ds := val3_in (World.alloc_heap_new wr (.cells ds.toArray 25)) (at_len hchild)
            have hcall := Hih.out L[j] ds (wr.alloc (.cells ds.toArray 25)) hcj (Vl.at_below (K.alloc_below wr _) (Nat.le_refl _) _ _ hat9)
            have hstep := fold_take_succ k L j hjl
            rw [← hS.out] at hstep
            obtain ⟨k1, z1, a1, len1, cap1, rfl⟩ := at_lit hchild
            subst ha
            generalize L[j].meas = v at hcall hstep
            obtain ⟨n1, ok⟩ := v
            have hst : ∀ X, X = stepM k (s, g) (n1, ok) → X = (wrap64 (s + n1), g && ok && (decide (0 < n1) || (k != 6))) := fun X h => h
            have hstep := hst _ hstep
            clear hst
            simp only at hcall
            rw [Hb6.out] at hstep
            have Hstep := Lib.hid hstep
            have hbw1 : w.heap.size < wr.heap.size := hbx.lt
            have Hbx := Lib.hid hbx
            clear hcell hchild hnodes hstep hat9 hcj hbe0 hbox hbx
            obtain ⟨p, hp⟩ : ∃ p, decide (0 < n1) = p := ⟨_, rfl⟩
            have hp' : decide (n1 > 0) = p := hp
            rw [hp] at Hstep
            cases g <;> cases ok <;> cases p <;> cases b6 <;> (
            go_wp2_with (first
              | (refine wpList_load_val rfl _ rfl b (off + j * 3) _ rfl h9 ?_)
              | (refine wpList_load_val rfl _ rfl wr.heap.size 0 _ rfl h10 ?_)
              | (go_at_call 24; refine hcall.mono ?_; rintro e w3 ⟨rfl, hb3⟩; have c0 : w3.cell? ⟨w.heap.size, 0, none⟩ = some (.int .i64 k) := (hb3.cell (p := ⟨w.heap.size, 0, none⟩) (by simp; omega)).trans (((K.alloc_below wr _).cell (p := ⟨w.heap.size, 0, none⟩) hbw1).trans (Hbx.out.2 0 (by decide))); have Hb3 := Lib.hid hb3; clear hb3)
              | fail)
            go_roundw
            case rel =>
              refine ⟨j + 1, _, _, by go_num, rfl, rfl, by omega, Lib.hid ?_, Lib.hid ?_⟩
              · rw [Hstep.out]
                rfl
              · exact hB.out.trans (((K.alloc_below wr _).trans (Hb3.out.mono (by simp))).mono hB.out.size)
            case measure => simp [intOf]; omega)
        · obtain rfl : j = L.length := by omega
          have hdj : decide ((L.length : Int) < L.length) = false := by simp
          have hSe := hS.out
          rw [List.take_of_length_le (Nat.le_refl _), ← HR.out] at hSe
          subst hSe
          go_wp2_with fail
          go_ret2
          exact ⟨rfl, HBw.out⟩
set_option maxHeartbeats 4000000 in
theorem len_any (x : Vl) (cs : List Value) (w : World) (hat : Vl.at w x cs) :
    Calls Try.prog 18 #[.agg cs.toArray] w fun e w' => e = .returned (.int .i64 x.meas.1) ∧ Below w.heap.size w w' := by
  have hcall := meas_any x.count x cs _ (Nat.le_refl _) (Vl.at_below (K.alloc_below w (.cells cs.toArray 25)) (Nat.le_refl _) _ _ hat)
  have hbox : Val3 (w.alloc (.cells cs.toArray 25)) w.heap.size 0 cs := val3_in (World.alloc_heap_new w _) (at_len hat)
  obtain ⟨k1, z1, a1, len1, cap1, rfl⟩ := at_lit hat
  generalize x.meas = v at *
  obtain ⟨n1, ok⟩ := v
  clear hat
  go_enter Try.func18, Try.ntmps18
  go_wp2_with (first
    | (refine wpList_load_val rfl _ rfl w.heap.size 0 _ rfl hbox ?_)
    | (go_at_call 24; refine hcall.mono ?_; rintro e w3 ⟨rfl, hb3⟩; have Hb3 := Lib.hid hb3; clear hb3)
    | fail)
  go_ret
  exact ⟨rfl, (K.alloc_below w _).trans (Hb3.out.mono (by simp))⟩
end V
end Go.Proofs.Ytkekdfelcfoilaa
namespace Go.Proofs.Ytkekdfelcfoilaa
namespace V
set_option maxRecDepth 100000
open Go.RowKit
theorem two_below (w : World) (o o' : Obj) : Below w.heap.size w ((w.alloc o).alloc o') := ((Below.refl _ _).alloc (Nat.le_refl _) _).alloc (by simp) _
theorem at_later {w wr : World} {x : Vl} {cs : List Value} (hB : Below w.heap.size w wr) (L : Later wr) (h : Vl.at w x cs) : Vl.at L.val x cs :=
  Vl.at_below (hB.trans (L.ok.mono hB.size)) (Nat.le_refl _) _ _ h
end V
end Go.Proofs.Ytkekdfelcfoilaa
namespace Go.Proofs.Ytkekdfelcfoilaa
namespace V
set_option maxRecDepth 100000
open Go.RowKit
theorem flat_cntd {x : Vl} (h : x.kind ≠ 2) : x.flat = (cntd x).flatMap Vl.flat := by
  cases x with
  | mk k z l => rw [flat_mk, if_neg (show ¬ k = 2 from h)]; rfl
mutual
theorem flat_le : ∀ x : Vl, x.flat.length ≤ x.count
  | .mk k z l => by
    rw [flat_mk, count_mk]
    split
    · simp
    · have h3 := flatTake_le l (cntN k l.length)
      omega
theorem flatTake_le : ∀ (l : List Vl) (n : Nat), ((l.take n).flatMap Vl.flat).length ≤ counts l
  | [], n => by simp
  | x :: l, 0 => by simp
  | x :: l, n + 1 => by
    have := flat_le x
    have := flatTake_le l n
    rw [List.take_succ_cons, List.flatMap_cons, List.length_append, counts_cons]; omega
end
theorem flatMap_take_succ (l : List Vl) (j : Nat) (hj : j < l.length) : (l.take (j + 1)).flatMap Vl.flat = (l.take j).flatMap Vl.flat ++ l[j].flat := by
  rw [List.take_succ_eq_append_getElem hj, List.flatMap_append]; simp
theorem flatMap_take_len (l : List Vl) (j : Nat) : ((l.take j).flatMap Vl.flat).length ≤ (l.flatMap Vl.flat).length := by
  have h : l.flatMap Vl.flat = (l.take j).flatMap Vl.flat ++ (l.drop j).flatMap Vl.flat := by rw [← List.flatMap_append, List.take_append_drop]
  rw [h, List.length_append]; omega
end V
end Go.Proofs.Ytkekdfelcfoilaa
