/- lang.machineOf, Ends, Says, walked. -/
import Derived.Test.YtobhjfhmhhahoaaLangMake
import Derived.Test.YtobhjfhmhhahoaaLangEnds
import Derived.Test.YtobhjfhmhhahoaaCoreGood
import Derived.Test.YtobhjfhmhhahoaaText
namespace Go.Proofs.Ytobhjfhmhhahoaa
namespace K
set_option maxRecDepth 100000
open Go.RowKit
def MachineOf (x : Cr) (w : World) (e : Ending) (w' : World) : Prop := ∃ m, e = .returned (.pointer (some ⟨m, 0, none⟩)) ∧ MachAt w.heap.size w' m (machS x) (machQ x) ∧ Below w.heap.size w w'
theorem start_at {A m q q' : Nat} {S : List St} {w : World} (h : MachAt A w m S q) : MachAt A (w.setCell ⟨m, 1, none⟩ (.int .i64 (q' : Int))) m S q' ∧ Fr maT A w (w.setCell ⟨m, 1, none⟩ (.int .i64 (q' : Int))) := by
  obtain ⟨hA, v, hv, ho⟩ := h
  exact ⟨⟨hA, v, heap_set hv 1 _, owns_other ho (p := ⟨m, 1, none⟩) hv (by decide) _⟩, (Fr.refl _ _ _).setCell hA hv (by decide) _⟩
set_option maxHeartbeats 4000000 in
theorem machineOf_walk {x : Cr} (hx : x.form = true) (hc : x.count ≤ 2000) {cs : List Value} {w : World} (hat : Cr.at w x cs) :
    Calls Try.prog 22 #[.agg cs.toArray] w (MachineOf x w) := by
  obtain ⟨k, s, n, a, len, cap, rfl⟩ := at_lit hat
  obtain ⟨W, hW⟩ : ∃ W, W = ((w.alloc (.cells #[.int .i64 k, .int .u64 (word s 0), .int .u64 (word s 1), .int .u64 (word s 2), .int .u64 (word s 3), .int .i64 n, .slice a len cap] 28)).alloc (.cells #[.bool false, .int .u64 0, .int .u64 0, .int .u64 0, .int .u64 0, .int .i64 0, .int .i64 0] 54)).alloc (.cells #[.slice (some ⟨w.heap.size + 1, 0, none⟩) 1 1, .int .i64 0] 57) := ⟨_, rfl⟩
  have hbW : Below w.heap.size w W := by rw [hW]; exact (((Below.refl _ _).alloc (Nat.le_refl _) _).alloc (by simp) _).alloc (by simp; omega) _
  have hbx : CoreIn W w.heap.size #[.int .i64 k, .int .u64 (word s 0), .int .u64 (word s 1), .int .u64 (word s 2), .int .u64 (word s 3), .int .i64 n, .slice a len cap] := by
    rw [hW]; exact (Below.heap_alloc _ _ _ (by simp; omega)).trans ((Below.heap_alloc _ _ _ (by simp)).trans (World.alloc_heap_new w _))
  have hms : W.heap[w.heap.size + 1]? = some (.cells #[.bool false, .int .u64 0, .int .u64 0, .int .u64 0, .int .u64 0, .int .i64 0, .int .i64 0] 54) := by
    rw [hW]
    have h := World.alloc_heap_new (w.alloc (.cells #[.int .i64 k, .int .u64 (word s 0), .int .u64 (word s 1), .int .u64 (word s 2), .int .u64 (word s 3), .int .i64 n, .slice a len cap] 28)) (.cells #[.bool false, .int .u64 0, .int .u64 0, .int .u64 0, .int .u64 0, .int .i64 0, .int .i64 0] 54)
    rw [World.size_alloc] at h
    exact (Below.heap_alloc _ _ _ (by simp)).trans h
  have hmm : W.heap[w.heap.size + 1 + 1]? = some (.cells #[.slice (some ⟨w.heap.size + 1, 0, none⟩) 1 1, .int .i64 0] 57) := by
    rw [hW]
    have h := World.alloc_heap_new ((w.alloc (.cells #[.int .i64 k, .int .u64 (word s 0), .int .u64 (word s 1), .int .u64 (word s 2), .int .u64 (word s 3), .int .i64 n, .slice a len cap] 28)).alloc (.cells #[.bool false, .int .u64 0, .int .u64 0, .int .u64 0, .int .u64 0, .int .i64 0, .int .i64 0] 54)) (.cells #[.slice (some ⟨w.heap.size + 1, 0, none⟩) 1 1, .int .i64 0] 57)
    rw [World.size_alloc, World.size_alloc] at h
    exact h
  have hmW : MachAt w.heap.size W (w.heap.size + 1 + 1) [doneSt] 0 := by
    refine ⟨by omega, _, hmm, by rw [stRow_len], .inr ⟨w.heap.size + 1, 1, _, rfl, by omega, hms, Nat.le_refl _, by decide, rfl, ?_⟩⟩
    show _ = stRow [doneSt]
    have : stRow [doneSt] = stVals ⟨false, 0, 0, 0⟩ := by simp [stRow, doneSt]
    rw [this, st_zero]; rfl
  have hcall := build_any x hx w w.heap.size (w.heap.size + 1 + 1) 0 0 _ [doneSt] W hat hbW (Nat.le_refl _) hbW.size hmW (by decide) mach_wf0 (by show 1 + x.count ≤ 100000; omega)
  have Hcall := Lib.hid hcall
  have h7 := core7_in hbx rfl
  have H7 := Lib.hid h7
  have HbW := Lib.hid hbW
  clear hcall hbx hms hmm hmW hbW hat h7
  go_enter Try.func22, Try.ntmps22
  go_upto_region 2 with fail
  rw [← hW]
  clear hW
  have h7 := H7.out
  go_wp2_with (first | (refine wpList_load_core rfl _ rfl w.heap.size 0 _ rfl h7 ?_) | fail)
  refine Hcall.out.mono ?_
  rintro e w2 ⟨rfl, hm2, hf2⟩
  have hst := start_at (q' := (x.bld [doneSt] 0).2) hm2
  have hmc : w2.cell? ⟨w.heap.size + 1 + 1, 1, none⟩ = some (.int .i64 (0 : Nat)) := by
    obtain ⟨_, v, hv, _⟩ := hm2
    rw [cells_at hv]; rfl
  have hmf : ∀ o, w2.frozen? ⟨w.heap.size + 1 + 1, o, none⟩ = false := by
    obtain ⟨_, v, hv, _⟩ := hm2
    exact fun o => by simp [World.frozen?, hv]
  have Hst := Lib.hid hst
  have Hf2 := Lib.hid hf2
  clear hm2 hst hf2 h7
  go_wp2_with fail
  go_ret
  exact ⟨_, rfl, Hst.out.1, HbW.out.trans (Hf2.out.trans Hst.out.2).below⟩
set_option maxHeartbeats 4000000 in
theorem lang_ends {x : Cr} {cs : List Value} {w : World} (hat : Cr.at w x cs) {a : Option Addr} {n cap : Nat} {l : List Nat} (hl : BytesAt w a n cap l) (z : Int) :
    Calls Try.prog 13 #[.agg cs.toArray, .slice a n cap, .int .i64 z] w (NatRow (endsC x l z) w) := by
  have hgood := K.good_walk (Cr.at_below ((Below.refl w.heap.size w).alloc (Nat.le_refl _) (.cells cs.toArray 28)) (Nat.le_refl _) _ _ hat)
  have hn := hl.1
  have hmx : n ≤ maxLen := hl.2.2.1
  unfold maxLen at hmx
  have hat0 := hat
  obtain ⟨k, s, nn, aa, len, ccap, rfl⟩ := at_lit hat
  have hw1 : Below w.heap.size w (w.alloc (.cells #[.int .i64 k, .int .u64 (word s 0), .int .u64 (word s 1), .int .u64 (word s 2), .int .u64 (word s 3), .int .i64 nn, .slice aa len ccap] 28)) := (Below.refl _ _).alloc (Nat.le_refl _) _
  have hbx := World.alloc_heap_new w (.cells #[.int .i64 k, .int .u64 (word s 0), .int .u64 (word s 1), .int .u64 (word s 2), .int .u64 (word s 3), .int .i64 nn, .slice aa len ccap] 28)
  have h7 := core7_in (cs := [.int .i64 k, .int .u64 (word s 0), .int .u64 (word s 1), .int .u64 (word s 2), .int .u64 (word s 3), .int .i64 nn, .slice aa len ccap]) hbx rfl
  obtain ⟨L, hL⟩ : ∃ L, L = endsC x l z := ⟨_, rfl⟩
  rw [← hL]
  have HL := Lib.hid hL
  have Hn := Lib.hid hn
  have Hw1 := Lib.hid hw1
  have Hat := Lib.hid (Cr.at_below hw1 (Nat.le_refl _) _ _ hat0)
  have Hl := Lib.hid (bytes_keep hl hw1)
  have Hbx := Lib.hid hbx
  clear hL hn hw1 hat hat0 hl hbx
  have nil : ∀ (w' : World), Below w.heap.size w w' → L = [] → NatRow L w (.returned (.slice none 0 0)) w' := fun w' hb e => by
    subst e; exact ⟨_, rfl, ⟨rfl, .inl ⟨rfl, rfl⟩⟩, hb⟩
  have Hnil := Lib.hid nil
  clear nil
  by_cases c1 : 256 < n
  · have hLe : L = [] := by rw [HL.out]; unfold endsC; rw [if_neg (by have := Hn.out; omega)]
    have d1 : decide ((n : Int) > 256) = true := by simp; omega
    have d2 : decide ((256 : Int) < (n : Int)) = true := by simp; omega
    have d3 : decide (256 < n) = true := by simp; omega
    have HLe := Lib.hid hLe
    clear hLe hgood h7 c1
    go_enter Try.func13, Try.ntmps13
    go_wp2_with fail
    go_ret
    exact Hnil.out _ Hw1.out HLe.out
  have hn256 : n ≤ 256 := by omega
  have d1 : decide ((n : Int) > 256) = false := by simp; omega
  have d2 : decide ((256 : Int) < (n : Int)) = false := by simp; omega
  have d3 : decide (256 < n) = false := by simp; omega
  by_cases c2 : z < 0
  · have hLe : L = [] := by rw [HL.out]; unfold endsC; rw [if_neg (by omega)]
    have e1 : decide (z < 0) = true := by simp; omega
    have HLe := Lib.hid hLe
    clear hLe hgood h7 c1
    go_enter Try.func13, Try.ntmps13
    go_wp2_with fail
    go_ret
    exact Hnil.out _ Hw1.out HLe.out
  have e1 : decide (z < 0) = false := by simp; omega
  by_cases c3 : (n : Int) < z
  · have hLe : L = [] := by rw [HL.out]; unfold endsC; rw [if_neg (by have := Hn.out; omega)]
    have e2 : decide (z > (n : Int)) = true := by simp; omega
    have e3 : decide ((n : Int) < z) = true := by simp; omega
    have HLe := Lib.hid hLe
    clear hLe hgood h7 c1
    go_enter Try.func13, Try.ntmps13
    go_wp2_with fail
    go_ret
    exact Hnil.out _ Hw1.out HLe.out
  obtain ⟨i, rfl⟩ : ∃ i : Nat, z = (i : Int) := ⟨z.toNat, by omega⟩
  have hi : i ≤ n := by omega
  have e2 : decide ((i : Int) > (n : Int)) = false := by simp; omega
  have e3 : decide ((n : Int) < (i : Int)) = false := by simp; omega
  have e4 : decide (n < i) = false := by simp; omega
  cases hg : goodC x with
  | false =>
    have hLe : L = [] := by rw [HL.out]; unfold endsC; rw [hg, if_neg (by simp)]
    rw [hg] at hgood
    have HLe := Lib.hid hLe
    clear hLe hg c1 c2 c3
    go_enter Try.func13, Try.ntmps13
    go_wp2_with (first | (refine wpList_load_node_want rfl _ rfl w.heap.size 0 _ rfl h7 ?_) | (go_at_call 19; refine hgood.mono ?_; rintro e w2 ⟨rfl, hb2⟩; have Hb2 := Lib.hid (Hw1.out.trans (hb2.mono Hw1.out.size)); clear hb2) | fail)
    go_ret
    exact Hnil.out _ Hb2.out HLe.out
  | true =>
    have hx : x.form = true := by unfold goodC at hg; rw [Bool.and_eq_true] at hg; exact hg.2
    have hct : x.count ≤ 2000 := by unfold goodC at hg; rw [Bool.and_eq_true, decide_eq_true_eq] at hg; exact hg.1
    have hLe : L = endsM (machS x) (l.drop i) i (startM (machS x) (machQ x)) := by
      have hlt := Hl.out.2.1
      rw [HL.out, mach_ends hx _ (fun b hb => hlt b (List.mem_of_mem_drop hb))]
      unfold endsC
      rw [if_pos (by have := Hn.out; exact ⟨by omega, by omega, by omega, hg⟩)]
      rfl
    rw [hg] at hgood
    have hbt := mach_built hx
    have hbs : 0 < (machS x).length := hbt.pre
    have hbf : (machS x).length ≤ 100000 := by have := hbt.few; show (x.bld [doneSt] 0).1.length ≤ _; simp only [List.length_cons, List.length_nil] at this; omega
    have HLe := Lib.hid hLe
    have hmo := fun (w' : World) (hat' : Cr.at w' x [.int .i64 k, .int .u64 (word s 0), .int .u64 (word s 1), .int .u64 (word s 2), .int .u64 (word s 3), .int .i64 nn, .slice aa len ccap]) => machineOf_walk hx hct hat'
    have Hmo := Lib.hid hmo
    have Hwf : Hid (StWf (machS x).length (machS x)) := Lib.hid hbt.wf
    have Hql : Hid (machQ x < (machS x).length) := Lib.hid hbt.lt
    have Hbs := Lib.hid hbs
    have Hbf := Lib.hid hbf
    clear hLe hg c1 c2 c3 hx hct hbt hbs hbf hmo
    go_enter Try.func13, Try.ntmps13
    go_upto_region 3 with (first | (refine wpList_load_node_want rfl _ rfl w.heap.size 0 _ rfl h7 ?_) | (go_at_call 19; refine hgood.mono ?_; rintro e w2 ⟨rfl, hb2⟩; have HB2 := Lib.hid hb2; have Hb2 := Lib.hid (Hw1.out.trans (hb2.mono Hw1.out.size)); clear hb2) | fail)
    have h72 := core7_in (cs := [.int .i64 k, .int .u64 (word s 0), .int .u64 (word s 1), .int .u64 (word s 2), .int .u64 (word s 3), .int .i64 nn, .slice aa len ccap]) ((HB2.out.block _ (by simp)).trans Hbx.out) rfl
    have Hmo2 := Lib.hid (Hmo.out w2 (Cr.at_below HB2.out (Nat.le_refl _) _ _ Hat.out))
    have Hl2 := Lib.hid (bytes_keep Hl.out HB2.out)
    clear hgood h7
    go_wp2_with (first | (refine wpList_load_core rfl _ rfl w.heap.size 0 _ rfl h72 ?_) | fail)
    refine Hmo2.out.mono ?_
    rintro e w3 ⟨m, rfl, hm3, hb3⟩
    have Hen := Lib.hid (ends_walk Hwf.out Hbf.out Hbs.out Hql.out hm3 (bytes_keep Hl2.out hb3) (by have := Hl2.out.1; omega) i (by have := Hl2.out.1; omega))
    have Hb3 := Lib.hid (Hb2.out.trans (hb3.mono Hb2.out.size))
    clear h72 hm3 hb3
    go_wp2_with fail
    refine Hen.out.mono ?_
    rintro e w4 ⟨v, rfl, hown, hb4⟩
    rw [← HLe.out] at hown
    obtain ⟨va, vcap, hv⟩ := owns_form hown
    subst hv
    have Hown := Lib.hid (owns_mono hown Hb3.out.size)
    have Hb4 := Lib.hid (Hb3.out.trans (hb4.mono Hb3.out.size))
    clear hown hb4
    go_wp2_with fail
    go_ret
    exact ⟨_, rfl, Hown.out, Hb4.out⟩
set_option maxHeartbeats 4000000 in
theorem lang_says {x : Cr} {cs : List Value} {w : World} (hat : Cr.at w x cs) {a : Option Addr} {n cap : Nat} {l : List Nat} (hl : BytesAt w a n cap l) :
    Calls Try.prog 15 #[.agg cs.toArray, .slice a n cap] w fun e w' => e = .returned (.bool (saysC x l)) ∧ Below w.heap.size w w' := by
  have hn := hl.1
  obtain ⟨k, s, nn, aa, len, ccap, rfl⟩ := at_lit hat
  have hw1 : Below w.heap.size w (w.alloc (.cells #[.int .i64 k, .int .u64 (word s 0), .int .u64 (word s 1), .int .u64 (word s 2), .int .u64 (word s 3), .int .i64 nn, .slice aa len ccap] 28)) := (Below.refl _ _).alloc (Nat.le_refl _) _
  have hbx := World.alloc_heap_new w (.cells #[.int .i64 k, .int .u64 (word s 0), .int .u64 (word s 1), .int .u64 (word s 2), .int .u64 (word s 3), .int .i64 nn, .slice aa len ccap] 28)
  have h7 := core7_in (cs := [.int .i64 k, .int .u64 (word s 0), .int .u64 (word s 1), .int .u64 (word s 2), .int .u64 (word s 3), .int .i64 nn, .slice aa len ccap]) hbx rfl
  have hen := Lib.hid (lang_ends (Cr.at_below hw1 (Nat.le_refl _) _ _ hat) (bytes_keep hl hw1) 0)
  have hll : ∀ g ∈ endsC x l 0, g ≤ l.length := fun g hg => by
    unfold endsC at hg
    split at hg
    · obtain ⟨j, hj, rfl, _⟩ := (endsL_mem _ _ _ _).1 hg
      simp only [Int.toNat_zero, List.drop_zero] at hj ⊢
      omega
    · cases hg
  rw [endsC_says]
  generalize endsC x l 0 = L at *
  have Hw1 := Lib.hid hw1
  have Hll := Lib.hid hll
  rw [← hn]
  have Hn := Lib.hid hn
  obtain ⟨R, hR⟩ : ∃ R, R = decide (L.getLast? = some n) := ⟨_, rfl⟩
  rw [← hR]
  have HR := Lib.hid hR
  clear hl hw1 hbx hat hll hn hR
  go_enter Try.func15, Try.ntmps15
  go_wp2_with (first | (refine wpList_load_core rfl _ rfl w.heap.size 0 _ rfl h7 ?_) | fail)
  refine hen.out.mono ?_
  rintro e w2 ⟨v, rfl, hown, hb2⟩
  have Hb2 := Lib.hid (Hw1.out.trans (hb2.mono Hw1.out.size))
  obtain ⟨va, vcap, rfl, hlm, hlc⟩ := nats_open hown
  unfold maxLen at hlm
  clear hb2 hown h7 hen
  by_cases h0 : L = []
  · subst h0
    have hRf : R = false := by rw [HR.out]; simp
    clear hlc HR
    subst hRf
    go_wp2_with fail
    go_ret
    exact ⟨rfl, Hb2.out⟩
  · have hpos : 0 < L.length := List.length_pos_iff.2 h0
    rcases hlc with h | ⟨g, rfl, hcap, hgw, _, hget⟩
    · omega
    have hlt : L.length - 1 < L.length := by omega
    have hc := hget (L.length - 1) L[L.length - 1] (List.getElem?_eq_getElem hlt)
    have hlast : L.getLast? = some L[L.length - 1] := by rw [List.getLast?_eq_getElem?, List.getElem?_eq_getElem hlt]
    have hRb : R = decide (L[L.length - 1] = n) := by rw [HR.out, hlast]; simp
    have d1 : decide ((L.length : Int) > 0) = true := by simp; omega
    have d2 : decide ((0 : Int) < (L.length : Int)) = true := by simp; omega
    have d3 : decide (0 < L.length) = true := by simp; omega
    have hsub : ((L.length : Int) - 1).toNat = L.length - 1 := by omega
    have hge : (1 : Int) ≤ L.length := by omega
    have hge' : (0 : Int) ≤ (L.length : Int) - 1 := by omega
    have hlt' : ((L.length : Int) - 1).toNat < L.length := by omega
    have hlt'' : (L.length : Int) - 1 < L.length := by omega
    generalize L[L.length - 1] = y at *
    have heq : ((y : Int) == (n : Int)) = decide (y = n) := by rw [Bool.eq_iff_iff, beq_iff_eq, decide_eq_true_eq]; omega
    rw [← hRb] at heq
    clear hget hlast h0 HR hRb
    go_wp2_with fail
    go_ret
    exact ⟨rfl, Hb2.out⟩
end K
end Go.Proofs.Ytobhjfhmhhahoaa
