/- ValWalks, ValMeas, ValFlat, ValSame, as one. -/
import Derived.Test.YtklmomgccmekkaaValKit
import Derived.Deep.LoopGhost
import Derived.Test.YtklmomgccmekkaaOpenBytes
import Derived.Test.YtklmomgccmekkaaText
import Derived.Test.YtklmomgccmekkaaTreeOps
import Derived.Test.YtklmomgccmekkaaLater
namespace Go.Proofs.Ytklmomgccmekkaa
namespace V
set_option maxRecDepth 100000
open Go.RowKit
/-- what counts of a value's list -/
def cntd : Vl → List Vl
  | .mk k _ l => l.take (cntN k l.length)
theorem cntd_mk (k : Int) (z : Nat) (l : List Vl) : cntd (.mk k z l) = l.take (cntN k l.length) := rfl
theorem cntd_counts (x : Vl) : counts (cntd x) < x.count := by
  cases x with
  | mk k z l => rw [cntd_mk, count_mk]; have := counts_take_le l (cntN k l.length); omega
theorem listAt_take {w : World} {l : List Vl} {a : Option Addr} {cap : Nat} (hmax : l.length ≤ maxLen) (hl : l.length = 0 ∨ ∃ b off, a = some ⟨b, off, none⟩ ∧ l.length ≤ cap ∧ b < w.heap.size ∧ valsAt w l b off) {n : Nat} (hn : n ≤ l.length) :
    ListAt w (l.take n) (.slice a n cap) := by
  have hlen : (l.take n).length = n := by simp; omega
  refine ⟨a, cap, by rw [hlen], by omega, ?_⟩
  rcases hl with hl | ⟨b, off, e1, e2, e3, e4⟩
  · left; omega
  · exact .inr ⟨b, off, e1, by omega, e3, valsAt_take l n off e4⟩
theorem counted_all {x : Vl} {cs : List Value} {w : World} (hat : Vl.at w x cs) :
    Calls Try.prog 62 #[.agg cs.toArray] w fun e w' => ∃ v, e = .returned v ∧ (∀ W, Vl.at W x cs → ListAt W (cntd x) v) ∧ Below w.heap.size w w' := by
  obtain ⟨k, z, l⟩ := x
  rw [at_mk] at hat
  obtain ⟨_, _, a, cap, rfl, hmax, hl⟩ := hat
  rw [cntd_mk]
  have hnil : ∀ n, n = 0 → ∀ W, Vl.at W (.mk k z l) [.int .i64 k, .int .u8 z, .slice a l.length cap] → ListAt W (l.take n) (.slice none 0 0) := fun n h _ _ => by subst h; exact ⟨none, 0, rfl, by simp, .inl rfl⟩
  have htake : ∀ n, n ≤ l.length → ∀ W, Vl.at W (.mk k z l) [.int .i64 k, .int .u8 z, .slice a l.length cap] → ListAt W (l.take n) (.slice a n cap) := fun n h W hW => by
    rw [at_mk] at hW
    obtain ⟨_, _, a', cap', he, hmax, hl⟩ := hW
    injection he with _ he
    injection he with _ he
    injection he with he
    injection he with e1 _ e2
    subst e1 e2
    exact listAt_take hmax hl h
  have Htake := Lib.hid htake
  have Hnil := Lib.hid hnil
  have hcap : l.length ≤ cap ∨ l.length = 0 := by rcases hl with hl | ⟨_, _, _, h, _⟩ <;> omega
  have hmx : (l.length : Int) ≤ 9223372036854775807 := by unfold maxLen at hmax; omega
  have hcap2 : l.length ≤ cap := by omega
  clear hl htake hnil hmax hcap
  generalize hn : l.length = n at *
  by_cases h3 : k = 3
  · subst h3
    rw [show cntN 3 n = min 2 n from rfl]
    by_cases h2 : n < 2
    · have hz : decide ((n : Int) < 2) = true := by simp; omega
      have e : min 2 n = n := by omega
      rw [e]
      go_enter Try.func62, Try.ntmps62
      go_wp2_with fail
      all_goals first
        | (go_ret
           exact ⟨_, rfl, Htake.out n (Nat.le_refl _), (Below.refl _ _).alloc (Nat.le_refl _) _⟩)
        | (exfalso; omega)
    · have e : min 2 n = 2 := by omega
      rw [e]
      go_enter Try.func62, Try.ntmps62
      go_wp2_with fail
      all_goals first
        | (exfalso; omega)
        | (go_ret
           exact ⟨_, rfl, Htake.out 2 (by omega), (Below.refl _ _).alloc (Nat.le_refl _) _⟩)
  by_cases h4 : k = 4 ∨ k = 5 ∨ k = 7
  · rw [show cntN k n = min 1 n from by unfold cntN; rw [if_neg h3, if_pos h4]]
    clear h3
    by_cases h2 : n < 1
    · have e : min 1 n = n := by omega
      rw [e]
      rcases h4 with rfl | rfl | rfl <;> (
        go_enter Try.func62, Try.ntmps62
        go_wp2_with fail
        all_goals first
          | (go_ret
             exact ⟨_, rfl, Htake.out n (Nat.le_refl _), (Below.refl _ _).alloc (Nat.le_refl _) _⟩)
          | (exfalso; omega))
    · have e : min 1 n = 1 := by omega
      rw [e]
      rcases h4 with rfl | rfl | rfl <;> (
        go_enter Try.func62, Try.ntmps62
        go_wp2_with fail
        all_goals first
          | (exfalso; omega)
          | (go_ret
             exact ⟨_, rfl, Htake.out 1 (by omega), (Below.refl _ _).alloc (Nat.le_refl _) _⟩))
  by_cases h6 : k = 6
  · subst h6
    rw [show cntN 6 n = n from rfl]
    go_enter Try.func62, Try.ntmps62
    go_wp2_with fail
    go_ret
    exact ⟨_, rfl, Htake.out n (Nat.le_refl _), (Below.refl _ _).alloc (Nat.le_refl _) _⟩
  · rw [show cntN k n = 0 from by unfold cntN; rw [if_neg h3, if_neg h4, if_neg h6]]
    have e3 : (k == 3) = false := by simp [h3]
    have e4 : (k == 4) = false := by simp; omega
    have e5 : (k == 5) = false := by simp; omega
    have e7 : (k == 7) = false := by simp; omega
    have e6 : (k == 6) = false := by simp [h6]
    clear h3 h4 h6
    go_enter Try.func62, Try.ntmps62
    go_wp2_with fail
    go_ret
    exact ⟨_, rfl, Hnil.out 0 rfl, (Below.refl _ _).alloc (Nat.le_refl _) _⟩
theorem counted_walk {x : Vl} {cs : List Value} {w : World} (hat : Vl.at w x cs) :
    Calls Try.prog 62 #[.agg cs.toArray] w fun e w' => ∃ v, e = .returned v ∧ ListAt w (cntd x) v ∧ Below w.heap.size w w' :=
  (counted_all hat).mono fun _ _ ⟨v, h1, h2, h3⟩ => ⟨v, h1, h2 w hat, h3⟩
/-! Size -/
theorem size_cntd (x : Vl) : x.size = 1 + ((cntd x).map Vl.size).sum := by
  cases x with
  | mk k z l => rw [size_mk]; rfl
theorem sum_take_le (l : List Vl) (f : Vl → Nat) (j : Nat) : ((l.take j).map f).sum ≤ (l.map f).sum := by
  have h : l.map f = (l.take j).map f ++ (l.drop j).map f := by rw [← List.map_append, List.take_append_drop]
  rw [h, List.sum_append]; omega
mutual
theorem size_le : ∀ x : Vl, x.size ≤ x.count
  | .mk k z l => by
    rw [size_mk, count_mk]
    have h1 := sizes_le l
    have h2 : ((l.take (cntN k l.length)).map Vl.size).sum ≤ (l.map Vl.size).sum := by
      exact sum_take_le l Vl.size _
    omega
theorem sizes_le : ∀ l : List Vl, (l.map Vl.size).sum ≤ counts l
  | [] => by simp
  | x :: l => by
    have := size_le x
    have := sizes_le l
    rw [List.map_cons, List.sum_cons, counts_cons]; omega
end
theorem sum_take_succ (l : List Vl) (f : Vl → Nat) (j : Nat) (hj : j < l.length) : ((l.take (j + 1)).map f).sum = ((l.take j).map f).sum + f l[j] := by
  rw [List.take_succ_eq_append_getElem hj, List.map_append, List.sum_append]; simp
set_option maxHeartbeats 4000000 in
theorem size_any : ∀ (m : Nat) (x : Vl) (cs : List Value) (w : World), x.count ≤ m → m < 4611686018427387904 → Vl.at w x cs →
    Calls Try.prog 41 #[.agg cs.toArray] w fun e w' => e = .returned (.int .i64 x.size) ∧ Below w.heap.size w w'
  | 0, x, _, _, h, _, _ => absurd (Vl.count_pos x) (by omega)
  | m + 1, x, cs, w, hm, hbig, hat => by
    have hcnt := fun w' (h : Below w.heap.size w w') => counted_walk (Vl.at_below h (Nat.le_refl _) _ _ hat)
    have hlt := cntd_counts x
    have hsz : x.size < 4611686018427387904 := by have := size_le x; omega
    have hbox : Val3 (w.alloc (.cells cs.toArray 35)) w.heap.size 0 cs := val3_in (World.alloc_heap_new w _) (at_len hat)
    have hcnt := hcnt _ ((Below.refl _ _).alloc (Nat.le_refl _) (.cells cs.toArray 35))
    rw [size_cntd] at hsz ⊢
    have hLlen : (cntd x).length ≤ 4611686018427387904 := by have := counts_len (cntd x); omega
    have hLm : counts (cntd x) ≤ m := by omega
    obtain ⟨k, z, a0, len0, cap0, rfl⟩ := at_lit hat
    generalize cntd x = L at *
    have ih := size_any m
    have Hih := Lib.hid ih
    have HLm := Lib.hid hLm
    obtain ⟨N, hN⟩ : ∃ N, N = 1 + (L.map Vl.size).sum := ⟨_, rfl⟩
    rw [← hN] at hsz ⊢
    have Hsz := Lib.hid hsz
    have HN := Lib.hid hN
    clear ih hat hlt hm hLm hsz hN
    go_enter Try.func41, Try.ntmps41
    go_wp2_with (first
      | (refine wpList_load_val rfl _ rfl w.heap.size 0 _ rfl hbox ?_)
      | (go_at_call 62; refine hcnt.mono ?_; rintro e w1 ⟨v, rfl, ⟨a, cap, rfl, hmax, hl⟩, hb1⟩; have Hb1 := Lib.hid hb1; have Hl := Lib.hid hl; clear hb1 hcnt hl hmax)
      | fail)
    go_loopw [3, 9] (fun v i wr => ∃ (j S : Nat), i = .int .i64 j ∧ v = .int .i64 S ∧ j ≤ L.length ∧ Hid (S = 1 + ((L.take j).map Vl.size).sum) ∧ Hid (Below w1.heap.size w1 wr)) (fun _ i _ => L.length - (intOf i).toNat)
    case atStart => exact ⟨0, 1, rfl, rfl, Nat.zero_le _, Lib.hid (by simp), Lib.hid (Below.refl _ _)⟩
    case round =>
      obtain ⟨j, S, rfl, rfl, hj, hS, hB⟩ := hrel
      have HBw : Hid (Below w.heap.size w wr) := Lib.hid ((((Below.refl _ _).alloc (Nat.le_refl _) _).trans (Hb1.out.mono (by simp))).trans (hB.out.mono (by have := Hb1.out.size; simp at this; omega)))
      by_cases hjl : j < L.length
      · have hdj : decide ((j : Int) < L.length) = true := by simp; omega
        rcases Hl.out with hl0 | ⟨b, off, ha, hcap, hbw, hnodes⟩
        · omega
        · obtain ⟨ds, hcell, hchild⟩ := vals_get _ b L off hnodes j hjl
          have hb0 : b < w1.heap.size := Nat.lt_of_lt_of_le hbw Hb1.out.size
          have hbe0 := ((Hb1.out.trans (hB.out.mono Hb1.out.size)))
          have h9 : Val3 wr b (off + j * 3) ds := hcell.below hbw hbe0
          have hat9 : Vl.at wr L[j] ds := Vl.at_below hbe0 (Nat.le_refl _) _ _ hchild
          have hcj : L[j].count ≤ m := Nat.le_trans (counts_mem (List.getElem_mem hjl)) HLm.out
          have h10 : ∀ w', ValIn w' wr.heap.size ds.toArray → Val3 w' wr.heap.size 0 ds := fun w' h => val3_in h (at_len hchild)
          have hcall := Hih.out L[j] ds (wr.alloc (.cells ds.toArray 35)) hcj (by omega) (Vl.at_below (K.alloc_below wr _) (Nat.le_refl _) _ _ hat9)
          have h10 := h10 _ (World.alloc_heap_new wr (.cells ds.toArray 35))
          have hstep := sum_take_succ L Vl.size j hjl
          have hle := sum_take_le L Vl.size (j + 1)
          rw [hstep] at hle
          obtain ⟨k1, z1, a1, len1, cap1, rfl⟩ := at_lit hchild
          subst ha
          generalize hv : L[j].size = v at hcall hstep hle
          have hSv : (S : Int) + (v : Int) < 9223372036854775807 := by have := hS.out; have := Hsz.out; have := HN.out; omega
          have Hstep := Lib.hid hstep
          clear hcell hchild hnodes hle hstep hv hat9 hcj hbe0 hbox
          go_wp2_with (first
            | (refine wpList_load_val rfl _ rfl b (off + j * 3) _ rfl h9 ?_)
            | (refine wpList_load_val rfl _ rfl wr.heap.size 0 _ rfl h10 ?_)
            | (go_at_call 41; refine hcall.mono ?_; rintro e w3 ⟨rfl, hb3⟩; have Hb3 := Lib.hid hb3; clear hb3)
            | fail)
          go_roundw
          case rel =>
            refine ⟨j + 1, S + v, by go_num, by go_num, by omega, Lib.hid ?_, Lib.hid ?_⟩
            · rw [Hstep.out, hS.out]; omega
            · exact hB.out.trans (((K.alloc_below wr _).trans (Hb3.out.mono (by simp))).mono hB.out.size)
          case measure => simp [intOf]; omega
      · obtain rfl : j = L.length := by omega
        have hdj : decide ((L.length : Int) < L.length) = false := by simp
        have hSe := hS.out
        rw [List.take_of_length_le (Nat.le_refl _)] at hSe
        rw [← HN.out] at hSe
        subst hSe
        go_wp2_with fail
        go_ret
        exact ⟨rfl, HBw.out⟩
end V
end Go.Proofs.Ytklmomgccmekkaa
namespace Go.Proofs.Ytklmomgccmekkaa
namespace V
set_option maxRecDepth 100000
open Go.RowKit
theorem meas_cntd {x : Vl} (h : x.kind ≠ 2) : x.meas = ((cntd x).map Vl.meas).foldl (stepM x.kind) (0, true) := by
  cases x with
  | mk k z l => rw [meas_mk, if_neg (show ¬ k = 2 from h)]; rfl
theorem fold_take_succ (k : Int) (l : List Vl) (j : Nat) (hj : j < l.length) : ((l.take (j + 1)).map Vl.meas).foldl (stepM k) (0, true) = stepM k (((l.take j).map Vl.meas).foldl (stepM k) (0, true)) l[j].meas := by
  rw [List.take_succ_eq_append_getElem hj, List.map_append, List.foldl_append]; rfl
set_option maxHeartbeats 4000000 in
theorem meas_any : ∀ (m : Nat) (x : Vl) (cs : List Value) (w : World), x.count ≤ m → Vl.at w x cs →
    Calls Try.prog 53 #[.agg cs.toArray] w fun e w' => e = .returned (.tuple #[.int .i64 x.meas.1, .bool x.meas.2]) ∧ Below w.heap.size w w'
  | 0, x, _, _, h, _ => absurd (Vl.count_pos x) (by omega)
  | m + 1, x, cs, w, hm, hat => by
    have hcnt := fun w' (h : Below w.heap.size w w') => counted_walk (Vl.at_below h (Nat.le_refl _) _ _ hat)
    have hlt := cntd_counts x
    have hbox : Val3 (w.alloc (.cells cs.toArray 35)) w.heap.size 0 cs := val3_in (World.alloc_heap_new w _) (at_len hat)
    have hcnt := hcnt _ ((Below.refl _ _).alloc (Nat.le_refl _) (.cells cs.toArray 35))
    have hLm : counts (cntd x) ≤ m := by omega
    have hLx : (cntd x).length ≤ 9223372036854775807 := by
      cases x with
      | mk k z l => rw [at_mk] at hat; obtain ⟨_, _, _, _, _, hmax, _⟩ := hat; rw [cntd_mk, List.length_take]; unfold maxLen at hmax; omega
    have hmeas := meas_cntd (x := x)
    have hcells := at_cells hat
    obtain ⟨k, z, l⟩ := x
    obtain ⟨a0, cap0, _, hcs⟩ := hcells
    simp only [Vl.kind, Vl.byte, Vl.nodes] at hcs hmeas
    by_cases h2 : k = 2
    · subst h2
      rw [show (Vl.mk 2 z l).meas = (1, true) from by rw [meas_mk, if_pos rfl]]
      subst hcs
      clear hcnt hlt hbox hLm hLx hat hm hmeas
      go_enter Try.func53, Try.ntmps53
      go_wp2_with fail
      go_ret2
      exact ⟨rfl, (Below.refl _ _).alloc (Nat.le_refl _) _⟩
    · rw [hmeas h2]
      clear hmeas
      generalize cntd (.mk k z l) = L at *
      obtain ⟨R, hR⟩ : ∃ R, R = (L.map Vl.meas).foldl (stepM k) (0, true) := ⟨_, rfl⟩
      rw [← hR]
      have HR := Lib.hid hR
      have ih := meas_any m
      have Hih := Lib.hid ih
      have HLm := Lib.hid hLm
      have e2 : (k == 2) = false := by simp [h2]
      obtain ⟨b6, hb6⟩ : ∃ b, (k != 6) = b := ⟨_, rfl⟩
      have Hb6 := Lib.hid hb6
      generalize hln : l.length = ln at *
      subst hcs
      clear ih hat hlt hm hLm hR h2 hln
      go_enter Try.func53, Try.ntmps53
      go_wp2_with (first
        | (refine wpList_load_val rfl _ rfl w.heap.size 0 _ rfl hbox ?_)
        | (go_at_call 62; refine hcnt.mono ?_; rintro e w1 ⟨v, rfl, ⟨a, cap, rfl, hmax, hl⟩, hb1⟩; have Hb1 := Lib.hid hb1; have Hl := Lib.hid hl; clear hb1 hcnt hl hmax)
        | fail)
      go_loopw [2, 3, 14] (fun n f i wr => ∃ (j : Nat) (s : Int) (g : Bool), i = .int .i64 j ∧ n = .int .i64 s ∧ f = .bool g ∧ j ≤ L.length ∧ Hid ((s, g) = ((L.take j).map Vl.meas).foldl (stepM k) (0, true)) ∧ Hid (Below w1.heap.size w1 wr)) (fun _ _ i _ => L.length - (intOf i).toNat)
      case atStart => exact ⟨0, 0, true, rfl, rfl, rfl, Nat.zero_le _, Lib.hid (by simp), Lib.hid (Below.refl _ _)⟩
      case round =>
        obtain ⟨j, s, g, rfl, rfl, rfl, hj, hS, hB⟩ := hrel
        have HBw : Hid (Below w.heap.size w wr) := Lib.hid ((((Below.refl _ _).alloc (Nat.le_refl _) _).trans (Hb1.out.mono (by simp))).trans (hB.out.mono (by have := Hb1.out.size; simp at this; omega)))
        by_cases hjl : j < L.length
        · have hdj : decide ((j : Int) < L.length) = true := by simp; omega
          rcases Hl.out with hl0 | ⟨b, off, ha, hcap, hbw, hnodes⟩
          · omega
          · obtain ⟨ds, hcell, hchild⟩ := vals_get _ b L off hnodes j hjl
            have hbe0 := ((Hb1.out.trans (hB.out.mono Hb1.out.size)))
            have h9 : Val3 wr b (off + j * 3) ds := hcell.below hbw hbe0
            have hat9 : Vl.at wr L[j] ds := Vl.at_below hbe0 (Nat.le_refl _) _ _ hchild
            have hbx : Val3 wr w.heap.size 0 [.int .i64 k, .int .u8 z, .slice a0 ln cap0] := hbox.below (by simp) hbe0
            have hcj : L[j].count ≤ m := Nat.le_trans (counts_mem (List.getElem_mem hjl)) HLm.out
            have h10 : Val3 (wr.alloc (.cells ds.toArray 35)) wr.heap.size 0 ds := val3_in (World.alloc_heap_new wr (.cells ds.toArray 35)) (at_len hchild)
            have hcall := Hih.out L[j] ds (wr.alloc (.cells ds.toArray 35)) hcj (Vl.at_below (K.alloc_below wr _) (Nat.le_refl _) _ _ hat9)
            have hstep := fold_take_succ k L j hjl
            rw [← hS.out] at hstep
            obtain ⟨k1, z1, a1, len1, cap1, rfl⟩ := at_lit hchild
            subst ha
            generalize L[j].meas = v at hcall hstep
            obtain ⟨n1, ok⟩ := v
            have hst : ∀ X, X = stepM k (s, g) (n1, ok) → X = (wrap64 (s + n1), g && ok && (decide (0 < n1) || (k != 6))) := fun X h => h
            have hstep := hst _ hstep
            clear hst
            simp only at hcall
            rw [Hb6.out] at hstep
            have Hstep := Lib.hid hstep
            have hbw1 : w.heap.size < wr.heap.size := hbx.lt
            have Hbx := Lib.hid hbx
            clear hcell hchild hnodes hstep hat9 hcj hbe0 hbox hbx
            obtain ⟨p, hp⟩ : ∃ p, decide (0 < n1) = p := ⟨_, rfl⟩
            have hp' : decide (n1 > 0) = p := hp
            rw [hp] at Hstep
            cases g <;> cases ok <;> cases p <;> cases b6 <;> (
            go_wp2_with (first
              | (refine wpList_load_val rfl _ rfl b (off + j * 3) _ rfl h9 ?_)
              | (refine wpList_load_val rfl _ rfl wr.heap.size 0 _ rfl h10 ?_)
              | (go_at_call 53; refine hcall.mono ?_; rintro e w3 ⟨rfl, hb3⟩; have c0 : w3.cell? ⟨w.heap.size, 0, none⟩ = some (.int .i64 k) := (hb3.cell (p := ⟨w.heap.size, 0, none⟩) (by simp; omega)).trans (((K.alloc_below wr _).cell (p := ⟨w.heap.size, 0, none⟩) hbw1).trans (Hbx.out.2 0 (by decide))); have Hb3 := Lib.hid hb3; clear hb3)
              | fail)
            go_roundw
            case rel =>
              refine ⟨j + 1, _, _, by go_num, rfl, rfl, by omega, Lib.hid ?_, Lib.hid ?_⟩
              · rw [Hstep.out]
                rfl
              · exact hB.out.trans (((K.alloc_below wr _).trans (Hb3.out.mono (by simp))).mono hB.out.size)
            case measure => simp [intOf]; omega)
        · obtain rfl : j = L.length := by omega
          have hdj : decide ((L.length : Int) < L.length) = false := by simp
          have hSe := hS.out
          rw [List.take_of_length_le (Nat.le_refl _), ← HR.out] at hSe
          subst hSe
          go_wp2_with fail
          go_ret2
          exact ⟨rfl, HBw.out⟩
set_option maxHeartbeats 4000000 in
theorem len_any (x : Vl) (cs : List Value) (w : World) (hat : Vl.at w x cs) :
    Calls Try.prog 27 #[.agg cs.toArray] w fun e w' => e = .returned (.int .i64 x.meas.1) ∧ Below w.heap.size w w' := by
  have hcall := meas_any x.count x cs _ (Nat.le_refl _) (Vl.at_below (K.alloc_below w (.cells cs.toArray 35)) (Nat.le_refl _) _ _ hat)
  have hbox : Val3 (w.alloc (.cells cs.toArray 35)) w.heap.size 0 cs := val3_in (World.alloc_heap_new w _) (at_len hat)
  obtain ⟨k1, z1, a1, len1, cap1, rfl⟩ := at_lit hat
  generalize x.meas = v at *
  obtain ⟨n1, ok⟩ := v
  clear hat
  go_enter Try.func27, Try.ntmps27
  go_wp2_with (first
    | (refine wpList_load_val rfl _ rfl w.heap.size 0 _ rfl hbox ?_)
    | (go_at_call 53; refine hcall.mono ?_; rintro e w3 ⟨rfl, hb3⟩; have Hb3 := Lib.hid hb3; clear hb3)
    | fail)
  go_ret
  exact ⟨rfl, (K.alloc_below w _).trans (Hb3.out.mono (by simp))⟩
end V
end Go.Proofs.Ytklmomgccmekkaa
namespace Go.Proofs.Ytklmomgccmekkaa
namespace V
set_option maxRecDepth 100000
open Go.RowKit
theorem flat_cntd {x : Vl} (h : x.kind ≠ 2) : x.flat = (cntd x).flatMap Vl.flat := by
  cases x with
  | mk k z l => rw [flat_mk, if_neg (show ¬ k = 2 from h)]; rfl
mutual
theorem flat_le : ∀ x : Vl, x.flat.length ≤ x.count
  | .mk k z l => by
    rw [flat_mk, count_mk]
    split
    · simp
    · have h3 := flatTake_le l (cntN k l.length)
      omega
theorem flatTake_le : ∀ (l : List Vl) (n : Nat), ((l.take n).flatMap Vl.flat).length ≤ counts l
  | [], n => by simp
  | x :: l, 0 => by simp
  | x :: l, n + 1 => by
    have := flat_le x
    have := flatTake_le l n
    rw [List.take_succ_cons, List.flatMap_cons, List.length_append, counts_cons]; omega
end
theorem flatMap_take_succ (l : List Vl) (j : Nat) (hj : j < l.length) : (l.take (j + 1)).flatMap Vl.flat = (l.take j).flatMap Vl.flat ++ l[j].flat := by
  rw [List.take_succ_eq_append_getElem hj, List.flatMap_append]; simp
theorem flatMap_take_len (l : List Vl) (j : Nat) : ((l.take j).flatMap Vl.flat).length ≤ (l.flatMap Vl.flat).length := by
  have h : l.flatMap Vl.flat = (l.take j).flatMap Vl.flat ++ (l.drop j).flatMap Vl.flat := by rw [← List.flatMap_append, List.take_append_drop]
  rw [h, List.length_append]; omega
set_option maxHeartbeats 4000000 in
theorem appendFlat_any (W0 : World) : ∀ (m : Nat) (x : Vl) (cs : List Value) (w : World) (v : Value) (xs : List Nat), x.count ≤ m → Vl.at W0 x cs → Below W0.heap.size W0 w →
    w.ownsRow W0.heap.size 5 1 v xs.length (xs.map u8v) → xs.length + x.flat.length ≤ 70368744177664 →
    Calls Try.prog 54 #[v, .agg cs.toArray] w fun e w' => ∃ (v' : Value) (ys : List Nat), e = .returned v' ∧ Hid (ys = xs ++ x.flat) ∧ w'.ownsRow W0.heap.size 5 1 v' ys.length (ys.map u8v) ∧ Below W0.heap.size w w'
  | 0, x, _, _, _, _, h, _, _, _, _ => absurd (Vl.count_pos x) (by omega)
  | m + 1, x, cs, w, v, xs, hm, hat0, hW, hown, hlen => by
    obtain ⟨i0, hi, hz0, hz1, hz2⟩ := info_parts info_u8
    have hat : Vl.at w x cs := Vl.at_below hW (Nat.le_refl _) _ _ hat0
    have hcnt : Calls Try.prog 62 #[.agg cs.toArray] (w.alloc (.cells cs.toArray 35)) fun e w' => ∃ v, e = .returned v ∧ ListAt W0 (cntd x) v ∧ Below (w.alloc (.cells cs.toArray 35)).heap.size (w.alloc (.cells cs.toArray 35)) w' := by
      refine (counted_all (Vl.at_below (K.alloc_below w (.cells cs.toArray 35)) (Nat.le_refl _) _ _ hat)).mono ?_
      rintro e w' ⟨v, h1, h2, h3⟩
      exact ⟨v, h1, h2 W0 hat0, h3⟩
    have hlt := cntd_counts x
    have hbox : Val3 (w.alloc (.cells cs.toArray 35)) w.heap.size 0 cs := val3_in (World.alloc_heap_new w _) (at_len hat)
    have hLm : counts (cntd x) ≤ m := by omega
    have hLx : (cntd x).length ≤ 9223372036854775807 := by
      cases x with
      | mk k z l => rw [at_mk] at hat; obtain ⟨_, _, _, _, _, hmax, _⟩ := hat; rw [cntd_mk, List.length_take]; unfold maxLen at hmax; omega
    have hflat := flat_cntd (x := x)
    have hcells := at_cells hat
    have hb8 := at_byte hat
    obtain ⟨k, z, l⟩ := x
    obtain ⟨a0, cap0, _, hcs⟩ := hcells
    simp only [Vl.kind, Vl.byte, Vl.nodes] at hcs hflat hb8
    have hs0 : W0.heap.size ≤ w.heap.size := hW.size
    obtain ⟨va, vcap, rfl⟩ := owns_form hown
    have Hown := Lib.hid hown
    clear hown
    by_cases h2 : k = 2
    · subst h2
      rw [show (Vl.mk 2 z l).flat = [z] from by rw [flat_mk, if_pos rfl]] at hlen ⊢
      subst hcs
      clear hcnt hlt hbox hLm hLx hat hat0 hm hflat
      simp only [List.length_singleton] at hlen
      have Hw := Lib.hid hW
      have Hlen := Lib.hid hlen
      clear hW hlen
      go_enter Try.func54, Try.ntmps54
      go_wp2_with (first
        | (at_builtin; refine wpList_append_own _ rfl _ _ 39 rfl W0.heap.size 5 i0 (.int .u8 0) 1 1 Try.underlying39 hi hz0 hz1 hz2 rfl (by decide) _ _ _ rfl ((Hown.out.alloc _).alloc _) ⟨w.heap.size + 1, 0, none⟩ 1 1 [u8v z] rfl rfl ?c1 ?c2 ?c3 ?c4 ?c5 ?_)
        | fail)
      case c1 => first | (have h := cell_one_new (w.alloc (.cells #[.int .i64 2, .int .u8 z, .slice a0 l.length cap0] 35)) (u8v z) 5; rw [World.size_alloc] at h; exact h) | (intro j u h; exact h)
      case c2 => first | rfl | (intro u hu; simp at hu; subst hu; rfl)
      case c3 => have := Hlen.out; unfold maxLen; omega
      case c4 => have := Hlen.out; omega
      case c5 => simp; omega
      intro v' w5 hown5 hgrow _
      have hn5 := ((K.alloc_below w (.cells #[.int .i64 2, .int .u8 z, .slice a0 l.length cap0] 35)).mono hs0).trans (((((Below.refl W0.heap.size _).alloc (by simp; omega) _).grown hgrow (by simp; omega) (fun k hk => (Hown.out.lt k hk).1))))
      have Hown5 := Lib.hid hown5
      have Hn5 := Lib.hid hn5
      clear hown5 hgrow hn5
      obtain ⟨a', cap', rfl⟩ := owns_form Hown5.out
      go_wp2_with fail
      go_ret
      refine ⟨_, xs ++ [z], rfl, Lib.hid rfl, ?_, Hn5.out⟩
      rw [List.map_append, List.length_append]
      exact Hown5.out
    · rw [hflat h2] at hlen ⊢
      clear hflat
      generalize cntd (.mk k z l) = L at *
      have ih := appendFlat_any W0 m
      have Hih := Lib.hid ih
      have HLm := Lib.hid hLm
      have Hlen := Lib.hid hlen
      have e2 : (k == 2) = false := by simp [h2]
      generalize hln : l.length = ln at *
      subst hcs
      have Hw := Lib.hid hW
      clear ih hat hat0 hlt hm hLm h2 hln hlen hW
      go_enter Try.func54, Try.ntmps54
      go_wp2_with (first
        | (refine wpList_load_val rfl _ rfl w.heap.size 0 _ rfl hbox ?_)
        | (go_at_call 62; refine hcnt.mono ?_; rintro e w1 ⟨v, rfl, ⟨a, cap, rfl, hmax, hl⟩, hb1⟩; have Hb1 := Lib.hid hb1; have Hl := Lib.hid hl; clear hb1 hcnt hl hmax)
        | fail)
      go_loopw [0, 18] (fun v i wr => ∃ (j : Nat) (ub : Value) (acc : List Nat), ub = v ∧ i = .int .i64 j ∧ j ≤ L.length ∧ Hid (acc = xs ++ (L.take j).flatMap Vl.flat) ∧ wr.ownsRow W0.heap.size 5 1 v acc.length (acc.map u8v) ∧ Below W0.heap.size w wr) (fun _ i _ => L.length - (intOf i).toNat)
      case atStart =>
        refine ⟨0, _, xs, rfl, rfl, Nat.zero_le _, Lib.hid (by simp), ?_, ((K.alloc_below w _).mono hs0).trans (Hb1.out.mono (by simp; omega))⟩
        exact owns_below (Hown.out.alloc _) Hb1.out
      case round =>
        obtain ⟨j, ub, acc, hub, rfl, hj, hacc, hown, hB⟩ := hrel
        subst hub
        have Hown4 := Lib.hid hown
        have HB := Lib.hid hB
        clear hown hB
        by_cases hjl : j < L.length
        · have hdj : decide ((j : Int) < L.length) = true := by simp; omega
          rcases Hl.out with hl0 | ⟨b, off, ha, hcap, hbw, hnodes⟩
          · omega
          · obtain ⟨ds, hcell, hchild⟩ := vals_get _ b L off hnodes j hjl
            have hW0 := Hw.out.trans (HB.out)
            have h9 : Val3 wr b (off + j * 3) ds := hcell.below hbw hW0
            have hcj : L[j].count ≤ m := Nat.le_trans (counts_mem (List.getElem_mem hjl)) HLm.out
            have h10 : Val3 (wr.alloc (.cells ds.toArray 35)) wr.heap.size 0 ds := val3_in (World.alloc_heap_new wr (.cells ds.toArray 35)) (at_len hchild)
            have hstep := flatMap_take_succ L j hjl
            have hfit : acc.length + L[j].flat.length ≤ 70368744177664 := by
              have h1 := flatMap_take_len L (j + 1)
              rw [hstep, List.length_append] at h1
              have := Hlen.out
              rw [hacc.out, List.length_append]; omega
            have hcall := Hih.out L[j] ds (wr.alloc (.cells ds.toArray 35)) ub acc hcj hchild (hW0.trans ((K.alloc_below wr _).mono hW0.size)) (Hown4.out.alloc _) hfit
            have hnext : ∀ ys, ys = acc ++ L[j].flat → ys = xs ++ (L.take (j + 1)).flatMap Vl.flat := fun ys h => by rw [h, hacc.out, hstep, List.append_assoc]
            have Hnext := Lib.hid hnext
            clear hnext
            obtain ⟨k1, z1, a1, len1, cap1, rfl⟩ := at_lit hchild
            subst ha
            obtain ⟨a', cap', rfl⟩ := owns_form Hown4.out
            have Hx := Lib.hid (show wr.heap.size ≥ W0.heap.size from hW0.size)
            clear hcell hchild hnodes hstep hcj hW0 hfit
            go_wp2_with (first
              | (refine wpList_load_val rfl _ rfl b (off + j * 3) _ rfl h9 ?_)
              | (refine wpList_load_val rfl _ rfl wr.heap.size 0 _ rfl h10 ?_)
              | (go_at_call 54; refine hcall.mono ?_; rintro e w3 ⟨v3, ys, rfl, hys, ho3, hb3⟩; obtain ⟨a3, cap3, rfl⟩ := owns_form ho3; have Hb3 := Lib.hid hb3; have Ho3 := Lib.hid ho3; clear hb3 ho3)
              | fail)
            go_roundw
            case rel =>
              exact ⟨j + 1, _, ys, rfl, by go_num, by omega, Lib.hid (Hnext.out ys hys.out), Ho3.out, HB.out.trans (((K.alloc_below wr _).mono Hx.out).trans Hb3.out)⟩
            case measure => simp [intOf]; omega
        · obtain rfl : j = L.length := by omega
          have hdj : decide ((L.length : Int) < L.length) = false := by simp
          have ho := hacc.out
          rw [List.take_of_length_le (Nat.le_refl _)] at ho
          have Ho := Lib.hid ho
          obtain ⟨a', cap', rfl⟩ := owns_form Hown4.out
          clear ho
          go_wp2_with fail
          go_ret
          exact ⟨_, acc, rfl, Lib.hid Ho.out, Hown4.out, HB.out⟩
set_option maxHeartbeats 4000000 in
theorem flat_any (x : Vl) (cs : List Value) (w : World) (hat : Vl.at w x cs) (hlen : x.flat.length ≤ 70368744177664) :
    Calls Try.prog 29 #[.agg cs.toArray] w fun e w' => ∃ (v' : Value) (ys : List Nat), e = .returned v' ∧ Hid (ys = x.flat) ∧ w'.ownsRow w.heap.size 5 1 v' ys.length (ys.map u8v) ∧ Below w.heap.size w w' := by
  have hcall := appendFlat_any w x.count x cs (w.alloc (.cells cs.toArray 35)) (.slice none 0 0) [] (Nat.le_refl _) hat (K.alloc_below w _) (World.ownsRow_nil _ _ _ _) (by simpa using hlen)
  rw [List.nil_append] at hcall
  have hbox : Val3 (w.alloc (.cells cs.toArray 35)) w.heap.size 0 cs := val3_in (World.alloc_heap_new w _) (at_len hat)
  obtain ⟨k1, z1, a1, len1, cap1, rfl⟩ := at_lit hat
  generalize x.flat = v at *
  clear hat
  go_enter Try.func29, Try.ntmps29
  go_wp2_with (first
    | (refine wpList_load_val rfl _ rfl w.heap.size 0 _ rfl hbox ?_)
    | (go_at_call 54; refine hcall.mono ?_; rintro e w3 ⟨v3, ys, rfl, hys, ho3, hb3⟩; obtain ⟨a', cap', rfl⟩ := owns_form ho3; have Hb3 := Lib.hid hb3; have Ho3 := Lib.hid ho3; clear hb3 ho3)
    | fail)
  go_ret
  exact ⟨_, ys, rfl, hys, Ho3.out, (K.alloc_below w _).trans Hb3.out⟩
end V
end Go.Proofs.Ytklmomgccmekkaa
namespace Go.Proofs.Ytklmomgccmekkaa
namespace V
set_option maxRecDepth 100000
open Go.RowKit
theorem two_below (w : World) (o o' : Obj) : Below w.heap.size w ((w.alloc o).alloc o') := ((Below.refl _ _).alloc (Nat.le_refl _) _).alloc (by simp) _
theorem at_later {w wr : World} {x : Vl} {cs : List Value} (hB : Below w.heap.size w wr) (L : Later wr) (h : Vl.at w x cs) : Vl.at L.val x cs :=
  Vl.at_below (hB.trans (L.ok.mono hB.size)) (Nat.le_refl _) _ _ h
set_option maxRecDepth 100000 in
set_option maxHeartbeats 4000000 in
theorem same_any : ∀ (m : Nat) (x y : Vl) (cs ds : List Value) (w : World), x.count ≤ m → Vl.at w x cs → Vl.at w y ds →
    Calls Try.prog 30 #[.agg cs.toArray, .agg ds.toArray] w fun e w' => e = .returned (.bool (x.same y)) ∧ Below w.heap.size w w' := by
  intro m
  induction m with
  | zero => intro x y cs ds w hm; have := Vl.count_pos x; omega
  | succ m ih =>
    intro x y cs ds w hm hx hy
    obtain ⟨k, s, l⟩ := x
    obtain ⟨k', s', l'⟩ := y
    rw [at_mk] at hx hy
    obtain ⟨_, _, a, cap, rfl, hmax, hl⟩ := hx
    obtain ⟨_, _, a', cap', rfl, hmax', hl'⟩ := hy
    rw [same_mk]
    have hs : ((s : Int) == (s' : Int)) = decide (s = s') := by rw [Bool.eq_iff_iff]; simp; omega
    have h6 : l.length ≠ l'.length → sames l l' = false := fun h => by
      cases hh : sames l l' with
      | false => rfl
      | true => exact absurd (sames_length l l' hh) h
    have e1 : (k == k') = decide (k = k') := by rw [Bool.eq_iff_iff]; simp
    have e6 : ((l.length : Int) == (l'.length : Int)) = decide (l.length = l'.length) := by rw [Bool.eq_iff_iff]; simp; omega
    by_cases hlen : l.length = l'.length
    rotate_left 1
    · rw [h6 hlen, Bool.and_false]
      rw [decide_eq_false hlen] at e6
      have n6 : ((l.length : Int) != (l'.length : Int)) = true := by simp [bne, e6]
      clear h6 hlen ih hl hl' hm
      generalize decide (k = k') = b1 at *
      generalize decide (s = s') = b2 at *
      have n1 : (k != k') = !b1 := by simp [bne, e1]
      have n5 : ((s : Int) != (s' : Int)) = !b2 := by simp [bne, hs]
      cases b1 <;> cases b2 <;> (
        go_enter Try.func30, Try.ntmps30
        go_wp2_with fail
        go_ret
        exact ⟨rfl, two_below _ _ _⟩)
    · rw [← hlen] at hmax' hl' e6 ⊢
      rw [decide_eq_true rfl] at e6
      have n6 : ((l.length : Int) != (l.length : Int)) = false := by simp [bne]
      have hmx : l.length ≤ 9223372036854775807 := Nat.le_trans hmax (by decide)
      clear h6
      have hcnt : counts l ≤ m := by rw [count_mk] at hm; omega
      clear hm
      generalize decide (k = k') = b1 at *
      generalize decide (s = s') = b2 at *
      have n1 : (k != k') = !b1 := by simp [bne, e1]
      have n5 : ((s : Int) != (s' : Int)) = !b2 := by simp [bne, hs]
      have Hlen := Lib.hid hlen
      clear hlen
      obtain ⟨R, hR⟩ : ∃ R, R = sames l l' := ⟨_, rfl⟩
      rw [← hR]
      have HR := Lib.hid hR
      clear hR
      by_cases hb : (b1 && b2) = true
      rotate_left 1
      · clear ih hl hl' HR
        cases b1 <;> cases b2 <;> first | (exact absurd rfl hb) | (
          clear hb
          go_enter Try.func30, Try.ntmps30
          go_wp2_with fail
          go_ret
          exact ⟨rfl, two_below _ _ _⟩)
      · simp only [Bool.and_eq_true] at hb
        obtain ⟨rfl, rfl⟩ := hb
        go_enter Try.func30, Try.ntmps30
        go_wp2_with fail
        go_loopw [30] (fun i wr => ∃ j : Nat, i = .int .i64 j ∧ j ≤ l.length ∧ Hid (sames (l.take j) (l'.take j) = true) ∧ Below (w.heap.size + 1 + 1) ((w.alloc (.cells #[.int .i64 k, .int .u8 s, .slice a l.length cap] 35)).alloc (.cells #[.int .i64 k', .int .u8 s', .slice a' l.length cap'] 35)) wr) (fun i _ => l.length - (intOf i).toNat)
        case atStart => exact ⟨0, rfl, Nat.zero_le _, by show _ = _; rw [List.take_zero, List.take_zero, sames_nil], Below.refl _ _⟩
        case round =>
          obtain ⟨j, rfl, hjl, hno, hr⟩ := hrel
          have cr0 : ∀ o, wr.cell? ⟨w.heap.size, o, none⟩ = ((w.alloc _).alloc _).cell? ⟨w.heap.size, o, none⟩ := fun o => hr.cell (p := ⟨w.heap.size, o, none⟩) (by show w.heap.size < w.heap.size + 1 + 1; omega)
          have cr1 : ∀ o, wr.cell? ⟨w.heap.size + 1, o, none⟩ = ((w.alloc _).alloc _).cell? ⟨w.heap.size + 1, o, none⟩ := fun o => hr.cell (p := ⟨w.heap.size + 1, o, none⟩) (by show w.heap.size + 1 < w.heap.size + 1 + 1; omega)
          have hB : Below w.heap.size w wr := (two_below _ _ _).trans (hr.mono (by omega))
          by_cases hjn : j < l.length
          · have hdj : decide ((j : Int) < l.length) = true := by simp; omega
            rcases hl with hl | ⟨b, off, rfl, hcap, hbw, hnodes⟩
            · omega
            rcases hl' with hl' | ⟨b', off', rfl, hcap', hbw', hnodes'⟩
            · omega
            have hjm : j < l'.length := by have := Hlen.out; omega
            obtain ⟨cs, hcell, hchild⟩ := vals_get w b l off hnodes j hjn
            obtain ⟨ds, hcell', hchild'⟩ := vals_get w b' l' off' hnodes' j hjm
            have hbr : b < wr.heap.size := Nat.lt_of_lt_of_le hbw hB.size
            have hbr' : b' < wr.heap.size := Nat.lt_of_lt_of_le hbw' hB.size
            have h9 : ∀ w', (∃ L : Later wr, w' = L.val) → Val3 w' b (off + j * 3) cs := fun w' hw' => by
              obtain ⟨L, rfl⟩ := hw'
              exact (hcell.below hbw hB).below hbr L.ok
            have h9' : ∀ w', (∃ L : Later wr, w' = L.val) → Val3 w' b' (off' + j * 3) ds := fun w' hw' => by
              obtain ⟨L, rfl⟩ := hw'
              exact (hcell'.below hbw' hB).below hbr' L.ok
            have cl0 : ∀ (L : Later wr) o, L.val.cell? ⟨w.heap.size, o, none⟩ = wr.cell? ⟨w.heap.size, o, none⟩ := fun L o => L.cell ⟨w.heap.size, o, none⟩ (by have := hr.size; simp at this; show w.heap.size < _; omega)
            have cl1 : ∀ (L : Later wr) o, L.val.cell? ⟨w.heap.size + 1, o, none⟩ = wr.cell? ⟨w.heap.size + 1, o, none⟩ := fun L o => L.cell ⟨w.heap.size + 1, o, none⟩ (by have := hr.size; simp at this; show w.heap.size + 1 < _; omega)
            have hcm : l[j].count ≤ m := Nat.le_trans (counts_mem (List.getElem_mem hjn)) hcnt
            have hcall := fun L : Later wr => ih l[j] l'[j] cs ds L.val hcm (at_later hB L hchild) (at_later hB L hchild')
            have hstep := sames_take_succ l l' j hjn hjm
            rw [hno.out, Bool.true_and] at hstep
            have hpart := sames_part l l' (j + 1) Hlen.out
            rw [hstep] at hpart
            generalize l[j].same l'[j] = v at hcall hstep hpart
            have Hstep := Lib.hid hstep
            have Hpart := Lib.hid hpart
            have hne := Later.nonempty wr
            clear hstep hpart hnodes hnodes' hcell hcell' hchild hchild' ih hcnt hno hcm
            go_wp2_with fail
            refine wp_region_later (W0 := wr) (Below.refl _ _) (by kernel_rfl) (by as_aux_lemma => kernel_rfl) ?_
            iterate 4 (go_big_quiet_step (fail))
            go_big_quiet_want
            refine quiet_load_val _ rfl b (off + j * 3) cs rfl h9 ?_
            go_big_quiet_on
            simp only [Act.put, List.setIfInBounds_toArray, List.set_cons_zero, List.set_cons_succ]
            iterate 4 (go_big_quiet_step (fail))
            go_big_quiet_want
            refine quiet_load_val _ rfl b' (off' + j * 3) ds rfl h9' ?_
            go_big_quiet_on
            simp only [Act.put, List.setIfInBounds_toArray, List.set_cons_zero, List.set_cons_succ]
            iterate 2 (go_big_quiet_step (exact Later.calls (hcall _)))
            refine wpQuiet_nil ?_
            intro w' hw'
            obtain ⟨L', rfl⟩ := hw'
            have hr5 := hr.trans (L'.ok.mono (by have := hr.size; simp at this; exact this))
            have hB5 := hB.trans (L'.ok.mono hB.size)
            clear hcall h9 h9' cl0 cl1
            cases v with
            | true =>
              go_wp2_with fail
              go_roundw
              case rel => exact ⟨j + 1, by go_num, Nat.succ_le_of_lt hjn, Hstep.out, hr5⟩
              case measure => simp [intOf]; omega
            | false =>
              have hRf : R = false := by rw [HR.out]; exact Hpart.out rfl
              clear HR
              subst hRf
              go_wp2_with fail
              go_ret
              exact ⟨rfl, hB5⟩
          · obtain rfl : j = l.length := by omega
            have hdj : decide ((l.length : Int) < l.length) = false := by simp
            have hRt : R = true := by
              have h := hno.out
              rw [List.take_length, Hlen.out, List.take_length] at h
              rw [HR.out, h]
            clear hl hl' ih HR
            subst hRt
            go_wp2_with fail
            go_ret
            exact ⟨rfl, hB⟩
end V
end Go.Proofs.Ytklmomgccmekkaa
