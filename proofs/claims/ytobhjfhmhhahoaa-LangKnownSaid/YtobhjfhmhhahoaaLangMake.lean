/- lang's machine: build, machineOf, walked. -/
import Derived.Test.YtobhjfhmhhahoaaLangBuild
namespace Go.Proofs.Ytobhjfhmhhahoaa
namespace K
set_option maxRecDepth 100000
open Go.RowKit
theorem add_lit {A m q : Nat} {S : List St} {w : World} (hm : MachAt A w m S q) (hS : S.length ≤ 100000) (hA : A ≤ w.heap.size) (t : St) {v : Value} (hv : v = .agg (stVals t).toArray) :
    Calls Try.prog 37 #[.pointer (some ⟨m, 0, none⟩), v] w (Added A m (S ++ [t]) q w S.length) := by
  subst hv; exact add_walk hm hS hA t
theorem st_zero (f : Bool) (n o : Nat) : stVals ⟨f, 0, n, o⟩ = [.bool f, .int .u64 0, .int .u64 0, .int .u64 0, .int .u64 0, .int .i64 n, .int .i64 o] := by
  unfold stVals
  simp only [word_zero]; rfl
theorem stRow_next : ∀ (S : List St) (k : Nat) (t : St) (v : Nat), S[k]? = some t → (stRow S).set (k * 7 + 5) (.int .i64 (v : Int)) = stRow (S.set k ⟨t.fork, t.set, v, t.other⟩)
  | [], k, t, v, h => by simp at h
  | u :: S, 0, t, v, h => by
    simp only [List.getElem?_cons_zero, Option.some.injEq] at h
    subst h
    simp [stRow, stVals]
  | u :: S, k + 1, t, v, h => by
    simp only [List.getElem?_cons_succ] at h
    have ih := stRow_next S k t v h
    have e : ∀ (u : St) (S : List St), stRow (u :: S) = stVals u ++ stRow S := fun u S => by simp [stRow]
    rw [List.set_cons_succ, e, e, ← ih, List.set_append, if_neg (by simp [stVals]; omega)]
    congr 2
    simp [stVals]; omega
theorem mach_next {A m q sb cap : Nat} {S : List St} {w : World} (h : MachAt A w m S q) (hsb : w.cell? ⟨m, 0, none⟩ = some (.slice (some ⟨sb, 0, none⟩) S.length cap)) {k : Nat} {t : St} (hk : S[k]? = some t) (v : Nat) :
    MachAt A (w.setCell ⟨sb, k * 7 + 5, none⟩ (.int .i64 (v : Int))) m (S.set k ⟨t.fork, t.set, v, t.other⟩) q ∧ Fr maT A w (w.setCell ⟨sb, k * 7 + 5, none⟩ (.int .i64 (v : Int))) := by
  obtain ⟨hA, u, hu, ho⟩ := h
  rw [cells_at hu] at hsb
  simp only [List.getElem?_toArray, List.getElem?_cons_zero, Option.some.injEq] at hsb
  subst hsb
  have hlt : k < S.length := (List.getElem?_eq_some_iff.1 hk).1
  rcases ho.2 with ⟨h1, _⟩ | ⟨g, cap', cur, hv, hb, hg, hc, hm, hs, htake⟩
  · cases h1
  cases hv
  have hne : m ≠ sb := fun e => by subst e; rw [hu] at hg; injection hg with hg; injection hg with _ e; exact absurd e (by decide)
  refine ⟨⟨hA, _, (Below.heap_setCell _ _ _ _ hne).trans hu, ?_, .inr ⟨sb, _, cur.set! (k * 7 + 5) (.int .i64 (v : Int)), by rw [List.length_set], hb, ?_, by rw [List.length_set]; exact hc, hm, by simp [hs], ?_⟩⟩, (Fr.refl _ _ _).setCell hb hg (by decide) _⟩
  · rw [stRow_len]
  · simp [World.setCell, Array.getElem?_modify, hg]
  · rw [List.length_set, ← stRow_next S k t v hk, ← htake]
    simp [List.take_set]
def BuildOk (x : Cr) : Prop := ∀ (W0 : World) (A m q nx : Nat) (cs : List Value) (S : List St) (w : World), Cr.at W0 x cs → Below W0.heap.size W0 w → W0.heap.size ≤ A → A ≤ w.heap.size → MachAt A w m S q → nx < S.length → StWf S.length S → S.length + x.count ≤ 100000 →
  Calls Try.prog 28 #[.pointer (some ⟨m, 0, none⟩), .agg cs.toArray, .int .i64 (nx : Int)] w (Added A m (x.bld S nx).1 q w (x.bld S nx).2)
theorem Added.of {A m q : Nat} {S : List St} {w w1 : World} {v : Nat} {e : Ending} {w' : World} (h : Added A m S q w1 v e w') (hf : Fr maT A w w1) : Added A m S q w v e w' := ⟨h.1, h.2.1, hf.trans h.2.2⟩
theorem Fr.core {T : List TypeId} {A : Nat} {w w' : World} (h : Fr T A w w') {b : Nat} {cs : Array Value} (hb : CoreIn w b cs) (ht : 28 ∉ T) : CoreIn w' b cs := h.keep _ _ _ _ hb ht

set_option maxHeartbeats 4000000 in
theorem build_em : BuildOk (.mk 1 0 0 []) := by
  intro W0 A m q nx cs S w hat hb0 hWA hAw hm hnx hw hcnt
  rw [at_mk] at hat
  obtain ⟨_, _, a, cap, rfl, hmax, hl⟩ := hat
  rw [bld_em]
  clear hl hb0
  have hw1 : Below w.heap.size w (w.alloc (.cells #[.int .i64 1, .int .u64 (word 0 0), .int .u64 (word 0 1), .int .u64 (word 0 2), .int .u64 (word 0 3), .int .i64 0, .slice a (List.length ([] : List Cr)) cap] 28)) := (Below.refl _ _).alloc (Nat.le_refl _) _
  have hm1 := Lib.hid (hm.below hw1)
  have hf1 := Lib.hid (Fr.of_below (T := maT) hw1 hAw)
  have hA1 := Nat.le_trans hAw hw1.size
  have hS : S.length ≤ 100000 := by omega
  clear hm hw hw1 hcnt hmax
  go_enter Try.func28, Try.ntmps28
  go_wp2_with fail
  go_ret
  exact ⟨rfl, hm1.out, hf1.out⟩
set_option maxHeartbeats 4000000 in
theorem build_no : BuildOk (.mk 0 0 0 []) := by
  intro W0 A m q nx cs S w hat hb0 hWA hAw hm hnx hw hcnt
  rw [at_mk] at hat
  obtain ⟨_, _, a, cap, rfl, hmax, hl⟩ := hat
  rw [bld_no]
  clear hl hb0
  have hw1 : Below w.heap.size w (w.alloc (.cells #[.int .i64 0, .int .u64 (word 0 0), .int .u64 (word 0 1), .int .u64 (word 0 2), .int .u64 (word 0 3), .int .i64 0, .slice a (List.length ([] : List Cr)) cap] 28)) := (Below.refl _ _).alloc (Nat.le_refl _) _
  have hm1 := Lib.hid (hm.below hw1)
  have hf1 := Lib.hid (Fr.of_below (T := maT) hw1 hAw)
  have hA1 := Nat.le_trans hAw hw1.size
  have hS : S.length ≤ 100000 := by omega
  clear hm hw hw1 hcnt hmax
  go_enter Try.func28, Try.ntmps28
  go_wp2_with fail
  refine (add_lit hm1.out hS hA1 ⟨false, 0, 0, 0⟩ (by rw [st_zero]; try rfl)).mono ?_
  rintro e w2 ⟨rfl, hm2, hf2⟩
  have Hm2 := Lib.hid hm2
  have Hf2 := Lib.hid (hf1.out.trans hf2)
  clear hm2 hf2
  go_wp2_with fail
  go_ret
  exact ⟨rfl, Hm2.out, Hf2.out⟩
set_option maxHeartbeats 4000000 in
theorem build_st (s : BitVec 256) : BuildOk (.mk 2 s 0 []) := by
  intro W0 A m q nx cs S w hat hb0 hWA hAw hm hnx hw hcnt
  rw [at_mk] at hat
  obtain ⟨_, _, a, cap, rfl, hmax, hl⟩ := hat
  rw [bld_st]
  clear hl hb0
  have hw1 : Below w.heap.size w (w.alloc (.cells #[.int .i64 2, .int .u64 (word s 0), .int .u64 (word s 1), .int .u64 (word s 2), .int .u64 (word s 3), .int .i64 0, .slice a (List.length ([] : List Cr)) cap] 28)) := (Below.refl _ _).alloc (Nat.le_refl _) _
  have hm1 := Lib.hid (hm.below hw1)
  have hf1 := Lib.hid (Fr.of_below (T := maT) hw1 hAw)
  have hA1 := Nat.le_trans hAw hw1.size
  have hS : S.length ≤ 100000 := by omega
  clear hm hw hw1 hcnt hmax
  go_enter Try.func28, Try.ntmps28
  go_wp2_with fail
  refine (add_lit hm1.out hS hA1 ⟨false, s, nx, 0⟩ (by simp [stVals])).mono ?_
  rintro e w2 ⟨rfl, hm2, hf2⟩
  have Hm2 := Lib.hid hm2
  have Hf2 := Lib.hid (hf1.out.trans hf2)
  clear hm2 hf2
  go_wp2_with fail
  go_ret
  exact ⟨rfl, Hm2.out, Hf2.out⟩
set_option maxHeartbeats 4000000 in
theorem build_grp (n : Int) (x1 : Cr) (_ : x1.form = true) (ih : BuildOk x1) : BuildOk (.mk 6 0 n [x1]) := by
  intro W0 A m q nx cs S w hat hb0 hWA hAw hm hnx hw hcnt
  rw [at_mk] at hat
  obtain ⟨_, _, a, cap, rfl, hmax, hl⟩ := hat
  rw [bld_grp]
  rcases hl with h | ⟨b, off, rfl, hcap, hbw, hnodes⟩
  · simp at h
  obtain ⟨c1, hc1, hcell1, hat1⟩ := nodes_get W0 b [x1] off hnodes 0 (by simp)
  simp only [List.getElem_cons_zero] at hat1
  rw [count_mk, counts_cons, counts_nil] at hcnt
  have hw1 : Below w.heap.size w (w.alloc (.cells #[.int .i64 6, .int .u64 (word 0 0), .int .u64 (word 0 1), .int .u64 (word 0 2), .int .u64 (word 0 3), .int .i64 n, .slice (some ⟨b, off, none⟩) [x1].length cap] 28)) := (Below.refl _ _).alloc (Nat.le_refl _) _
  have hm1 := hm.below hw1
  have hf1 := Lib.hid (Fr.of_below (T := maT) hw1 hAw)
  have hA1 := Nat.le_trans hAw hw1.size
  have hbb : Below W0.heap.size W0 (w.alloc (.cells #[.int .i64 6, .int .u64 (word 0 0), .int .u64 (word 0 1), .int .u64 (word 0 2), .int .u64 (word 0 3), .int .i64 n, .slice (some ⟨b, off, none⟩) [x1].length cap] 28)) := hb0.trans (hw1.mono hb0.size)
  have h7 : ∀ w', Below W0.heap.size W0 w' → Core7 w' b off c1 := fun w' h => ⟨hc1, fun q hq => by rw [h.cell (p := ⟨b, off + q, none⟩) hbw]; have := hcell1 q hq; rw [Nat.zero_mul, Nat.add_zero] at this; exact this⟩
  have hcall := Lib.hid (ih W0 A m q nx c1 S _ hat1 hbb hWA hA1 hm1 hnx hw (by omega))
  have hld := h7 _ hbb
  have Hbx := Lib.hid (World.alloc_heap_new w (.cells #[.int .i64 6, .int .u64 (word 0 0), .int .u64 (word 0 1), .int .u64 (word 0 2), .int .u64 (word 0 3), .int .i64 n, .slice (some ⟨b, off, none⟩) [x1].length cap] 28))
  clear hm hw hw1 hcnt hmax hnodes hcell1 hat1 hm1 hbb h7 ih hbw hcap hc1
  go_enter Try.func28, Try.ntmps28
  go_wp2_with (first | (refine wpList_load_core rfl _ rfl b off c1 rfl hld ?_) | fail)
  refine (hcall.out).mono ?_
  rintro e w2 ⟨rfl, hm2, hf2⟩
  have Hm2 := Lib.hid hm2
  have Hf2 := Lib.hid (hf1.out.trans hf2)
  clear hm2 hf2 hld hcall
  go_wp2_with fail
  go_ret
  exact ⟨rfl, Hm2.out, Hf2.out⟩
set_option maxHeartbeats 4000000 in
theorem build_ren (x1 : Cr) (_ : x1.form = true) (ih : BuildOk x1) : BuildOk (.mk 7 0 0 [x1]) := by
  intro W0 A m q nx cs S w hat hb0 hWA hAw hm hnx hw hcnt
  rw [at_mk] at hat
  obtain ⟨_, _, a, cap, rfl, hmax, hl⟩ := hat
  rw [bld_ren]
  rcases hl with h | ⟨b, off, rfl, hcap, hbw, hnodes⟩
  · simp at h
  obtain ⟨c1, hc1, hcell1, hat1⟩ := nodes_get W0 b [x1] off hnodes 0 (by simp)
  simp only [List.getElem_cons_zero] at hat1
  rw [count_mk, counts_cons, counts_nil] at hcnt
  have hw1 : Below w.heap.size w (w.alloc (.cells #[.int .i64 7, .int .u64 (word 0 0), .int .u64 (word 0 1), .int .u64 (word 0 2), .int .u64 (word 0 3), .int .i64 0, .slice (some ⟨b, off, none⟩) [x1].length cap] 28)) := (Below.refl _ _).alloc (Nat.le_refl _) _
  have hm1 := hm.below hw1
  have hf1 := Lib.hid (Fr.of_below (T := maT) hw1 hAw)
  have hA1 := Nat.le_trans hAw hw1.size
  have hbb : Below W0.heap.size W0 (w.alloc (.cells #[.int .i64 7, .int .u64 (word 0 0), .int .u64 (word 0 1), .int .u64 (word 0 2), .int .u64 (word 0 3), .int .i64 0, .slice (some ⟨b, off, none⟩) [x1].length cap] 28)) := hb0.trans (hw1.mono hb0.size)
  have h7 : ∀ w', Below W0.heap.size W0 w' → Core7 w' b off c1 := fun w' h => ⟨hc1, fun q hq => by rw [h.cell (p := ⟨b, off + q, none⟩) hbw]; have := hcell1 q hq; rw [Nat.zero_mul, Nat.add_zero] at this; exact this⟩
  have hcall := Lib.hid (ih W0 A m q nx c1 S _ hat1 hbb hWA hA1 hm1 hnx hw (by omega))
  have hld := h7 _ hbb
  have Hbx := Lib.hid (World.alloc_heap_new w (.cells #[.int .i64 7, .int .u64 (word 0 0), .int .u64 (word 0 1), .int .u64 (word 0 2), .int .u64 (word 0 3), .int .i64 0, .slice (some ⟨b, off, none⟩) [x1].length cap] 28))
  clear hm hw hw1 hcnt hmax hnodes hcell1 hat1 hm1 hbb h7 ih hbw hcap hc1
  go_enter Try.func28, Try.ntmps28
  go_wp2_with (first | (refine wpList_load_core rfl _ rfl b off c1 rfl hld ?_) | fail)
  refine (hcall.out).mono ?_
  rintro e w2 ⟨rfl, hm2, hf2⟩
  have Hm2 := Lib.hid hm2
  have Hf2 := Lib.hid (hf1.out.trans hf2)
  clear hm2 hf2 hld hcall
  go_wp2_with fail
  go_ret
  exact ⟨rfl, Hm2.out, Hf2.out⟩
set_option maxHeartbeats 4000000 in
theorem build_star (x1 : Cr) (f1 : x1.form = true) (ih : BuildOk x1) : BuildOk (.mk 5 0 0 [x1]) := by
  intro W0 A m q nx cs S w hat hb0 hWA hAw hm hnx hw hcnt
  rw [at_mk] at hat
  obtain ⟨_, _, a, cap, rfl, hmax, hl⟩ := hat
  rw [bld_star]
  rcases hl with h | ⟨b, off, rfl, hcap, hbw, hnodes⟩
  · simp at h
  obtain ⟨c1, hc1, hcell1, hat1⟩ := nodes_get W0 b [x1] off hnodes 0 (by simp)
  simp only [List.getElem_cons_zero] at hat1
  rw [count_mk, counts_cons, counts_nil] at hcnt
  have hw1 : Below w.heap.size w (w.alloc (.cells #[.int .i64 5, .int .u64 (word 0 0), .int .u64 (word 0 1), .int .u64 (word 0 2), .int .u64 (word 0 3), .int .i64 0, .slice (some ⟨b, off, none⟩) [x1].length cap] 28)) := (Below.refl _ _).alloc (Nat.le_refl _) _
  have hm1 := hm.below hw1
  have hf1 := Lib.hid (Fr.of_below (T := maT) hw1 hAw)
  have hA1 := Nat.le_trans hAw hw1.size
  have hbb : Below W0.heap.size W0 (w.alloc (.cells #[.int .i64 5, .int .u64 (word 0 0), .int .u64 (word 0 1), .int .u64 (word 0 2), .int .u64 (word 0 3), .int .i64 0, .slice (some ⟨b, off, none⟩) [x1].length cap] 28)) := hb0.trans (hw1.mono hb0.size)
  have h7 : ∀ w', Below W0.heap.size W0 w' → Core7 w' b off c1 := fun w' h => ⟨hc1, fun q hq => by rw [h.cell (p := ⟨b, off + q, none⟩) hbw]; have := hcell1 q hq; rw [Nat.zero_mul, Nat.add_zero] at this; exact this⟩
  have hadd := Lib.hid (add_lit hm1 (by omega) hA1 ⟨true, 0, 0, nx⟩ (v := .agg #[.bool true, .int .u64 0, .int .u64 0, .int .u64 0, .int .u64 0, .int .i64 0, .int .i64 nx]) (by rw [st_zero]; try rfl))
  have hw2 : StWf (S ++ [(⟨true, 0, 0, nx⟩ : St)]).length (S ++ [⟨true, 0, 0, nx⟩]) := by
    simp only [List.length_append, List.length_cons, List.length_nil]
    exact (hw.mono (by omega)).snoc (by simp) (by simp; omega) (fun _ => rfl)
  have hbuilt := Lib.hid (built x1 f1 (S ++ [⟨true, 0, 0, nx⟩]) S.length (by simp) hw2)
  have Hcall := Lib.hid (fun w2 (hb2 : Below W0.heap.size W0 w2) (hA2 : A ≤ w2.heap.size) (hm2 : MachAt A w2 m (S ++ [⟨true, 0, 0, nx⟩]) q) => ih W0 A m q S.length c1 (S ++ [⟨true, 0, 0, nx⟩]) w2 hat1 hb2 hWA hA2 hm2 (by simp) hw2 (by simp; omega))
  have H7 := Lib.hid h7
  have Hbx : Hid (CoreIn (w.alloc (.cells #[.int .i64 5, .int .u64 (word 0 0), .int .u64 (word 0 1), .int .u64 (word 0 2), .int .u64 (word 0 3), .int .i64 0, .slice (some ⟨b, off, none⟩) [x1].length cap] 28)) w.heap.size _) := Lib.hid (World.alloc_heap_new w (.cells #[.int .i64 5, .int .u64 (word 0 0), .int .u64 (word 0 1), .int .u64 (word 0 2), .int .u64 (word 0 3), .int .i64 0, .slice (some ⟨b, off, none⟩) [x1].length cap] 28))
  have Hbb := Lib.hid hbb
  obtain ⟨R, hR⟩ : ∃ R, R = x1.bld (S ++ [⟨true, 0, 0, nx⟩]) S.length := ⟨_, rfl⟩
  rw [← hR] at hbuilt ⊢
  have HR := Lib.hid hR
  clear hm hw hw1 hcnt hmax hnodes hcell1 hat1 hm1 hbb h7 ih f1 hcap hc1 hw2 hR hbw
  go_enter Try.func28, Try.ntmps28
  go_wp2_with fail
  refine (hadd.out).mono ?_
  rintro e w2 ⟨rfl, hm2, hf2⟩
  have hbx2 := hf2.core Hbx.out (by decide)
  have hb2 := Hbb.out.trans (hf2.below.mono hWA)
  have hld := H7.out _ hb2
  have hA2 := Nat.le_trans hA1 hf2.below.size
  have hc2 := Hcall.out _ hb2 hA2 hm2
  rw [← HR.out] at hc2
  have Hc2 := Lib.hid hc2
  have k6 : w2.cell? ⟨w.heap.size, 6, none⟩ = some (.slice (some ⟨b, off, none⟩) [x1].length cap) := by rw [cells_at hbx2]; rfl
  have Hf2 := Lib.hid (hf1.out.trans hf2)
  clear hm2 hf2 hbx2 hb2 hc2 hadd Hcall H7 Hbx Hbb
  go_wp2_with (first | (refine wpList_load_core rfl _ rfl b off c1 rfl hld ?_) | fail)
  refine (Hc2.out).mono ?_
  rintro e w3 ⟨rfl, hm3, hf3⟩
  have hpre := hbuilt.out.pre
  simp only [List.length_append, List.length_cons, List.length_nil] at hpre
  obtain ⟨sb, scap, g0, g1, g2, hsc, hsm, hsb, hst, hfz, g4⟩ := hm3.open (by omega)
  have hk : R.1[S.length]? = some ⟨true, 0, 0, nx⟩ := (hbuilt.out.old S.length (by simp)).trans (by simp)
  have hst5 := hst S.length _ hk 5 (by decide)
  have hst5' : w3.cell? ⟨sb, S.length * 7 + 5, none⟩ = some (.int .i64 0) := hst5
  have hnext := mach_next hm3 g0 hk R.2
  have Hnext := Lib.hid hnext
  have Hf3 := Lib.hid (Hf2.out.trans hf3)
  have hlt : decide ((S.length : Int) < R.1.length) = true := by simp; omega
  have hlt' : decide (S.length < R.1.length) = true := by simp; omega
  have hfz5 := hfz (S.length * 7 + 5)
  clear hm3 hf3 g1 g2 g4 hst hst5 hfz hnext Hc2 hld k6 hk hbuilt HR
  go_wp2_with fail
  go_ret
  exact ⟨rfl, Hnext.out.1, Hf3.out.trans Hnext.out.2⟩
set_option maxHeartbeats 4000000 in
theorem build_cat (x1 x2 : Cr) (_ : x1.form = true) (f2 : x2.form = true) (ih1 : BuildOk x1) (ih2 : BuildOk x2) : BuildOk (.mk 3 0 0 [x1, x2]) := by
  intro W0 A m q nx cs S w hat hb0 hWA hAw hm hnx hw hcnt
  rw [at_mk] at hat
  obtain ⟨_, _, a, cap, rfl, hmax, hl⟩ := hat
  rw [bld_cat]
  rcases hl with h | ⟨b, off, rfl, hcap, hbw, hnodes⟩
  · simp at h
  obtain ⟨c1, hc1, hcell1, hat1⟩ := nodes_get W0 b [x1, x2] off hnodes 0 (by simp)
  obtain ⟨c2, hc2, hcell2, hat2⟩ := nodes_get W0 b [x1, x2] off hnodes 1 (by simp)
  simp only [List.getElem_cons_zero] at hat1
  simp only [List.getElem_cons_succ, List.getElem_cons_zero] at hat2
  rw [count_mk, counts_cons, counts_cons, counts_nil] at hcnt
  obtain ⟨wd, hwd⟩ : ∃ wd, wd = (w.alloc (.cells #[.int .i64 3, .int .u64 (word (0#256) 0), .int .u64 (word (0#256) 1), .int .u64 (word (0#256) 2), .int .u64 (word (0#256) 3), .int .i64 0, .slice (some ⟨b, off, none⟩) 2 cap] 28)).drew := ⟨_, rfl⟩
  have hw1 : Below w.heap.size w wd := by rw [hwd]; exact ((Below.refl _ _).alloc (Nat.le_refl _) _).drew
  have hbx : CoreIn wd w.heap.size #[.int .i64 3, .int .u64 (word (0#256) 0), .int .u64 (word (0#256) 1), .int .u64 (word (0#256) 2), .int .u64 (word (0#256) 3), .int .i64 0, .slice (some ⟨b, off, none⟩) 2 cap] := by rw [hwd]; exact World.alloc_heap_new w _
  have hmd := hm.below hw1
  have hfd := Lib.hid (Fr.of_below (T := maT) hw1 hAw)
  have hAd := Nat.le_trans hAw hw1.size
  have hbd : Below W0.heap.size W0 wd := hb0.trans (hw1.mono hb0.size)
  -- the class of worlds
  obtain ⟨C, hC⟩ : ∃ C : World → Prop, C = fun w' => CoreIn w' w.heap.size #[.int .i64 3, .int .u64 (word (0#256) 0), .int .u64 (word (0#256) 1), .int .u64 (word (0#256) 2), .int .u64 (word (0#256) 3), .int .i64 0, .slice (some ⟨b, off, none⟩) 2 cap] ∧ Below W0.heap.size W0 w' := ⟨_, rfl⟩
  have hCd : C wd := by rw [hC]; exact ⟨hbx, hbd⟩
  have hCf : ∀ w1 w2, C w1 → Fr maT A w1 w2 → C w2 := by
    rw [hC]
    exact fun w1 w2 h hf => ⟨hf.core h.1 (by decide), h.2.trans (hf.below.mono hWA)⟩
  have hCb : ∀ w', C w' → Below W0.heap.size W0 w' := by rw [hC]; exact fun w' h => h.2
  have k6 : ∀ L : HeldW C, L.val.cell? ⟨w.heap.size, 6, none⟩ = some (.slice (some ⟨b, off, none⟩) 2 cap) := by
    subst hC
    intro L
    rw [cells_at L.ok.1]; rfl
  have h71 : ∀ w', (∃ L : HeldW C, w' = L.val) → Core7 w' b off c1 := fun w' h => by
    obtain ⟨L, rfl⟩ := h
    exact ⟨hc1, fun q hq => by rw [(hCb _ L.ok).cell (p := ⟨b, off + q, none⟩) hbw]; have := hcell1 q hq; rw [Nat.zero_mul, Nat.add_zero] at this; exact this⟩
  have h72 : ∀ w', (∃ L : HeldW C, w' = L.val) → Core7 w' b (off + 7) c2 := fun w' h => by
    obtain ⟨L, rfl⟩ := h
    exact ⟨hc2, fun q hq => by rw [(hCb _ L.ok).cell (p := ⟨b, off + 7 + q, none⟩) hbw]; have := hcell2 q hq; rw [Nat.one_mul] at this; exact this⟩
  have hne : Nonempty (HeldW C) := HeldW.nonempty hCd
  have Hcb := Lib.hid hCb
  have Hcf := Lib.hid hCf
  have Hcd := Lib.hid hCd
  clear hC hbx hCb hCf hCd hnodes hcell1 hcell2 hw1 hmax hm
  have hbu2 := built x2 f2 S nx hnx hw
  have Hc2 := Lib.hid (ih2 W0 A m q nx c2 S wd hat2 hbd hWA hAd hmd hnx hw (by omega))
  have hfew := hbu2.few
  have Hc1 := Lib.hid (fun w2 (hb2 : Below W0.heap.size W0 w2) (hA2 : A ≤ w2.heap.size) (hm2 : MachAt A w2 m (x2.bld S nx).1 q) => ih1 W0 A m q (x2.bld S nx).2 c1 (x2.bld S nx).1 w2 hat1 hb2 hWA hA2 hm2 hbu2.lt hbu2.wf (by omega))
  obtain ⟨R, hR⟩ : ∃ R, R = x2.bld S nx := ⟨_, rfl⟩
  rw [← hR] at Hc2 Hc1 ⊢
  clear hbu2 hfew hR ih1 ih2 hat1 hat2 f2 hw hcnt hmd hbd
  go_enter Try.func28, Try.ntmps28
  go_upto_region 7 with fail
  refine wp_region_hold C (.plain 0 (.plain 1 (.plain 2 (.plain 3 (.plain 4 (.plain 5 (.plain 6 (.plain 7 (.plain 8 (.plain 9 (.plain 10 (.sole 11 (.sole 12 (.plain 13 .done)))))))))))))) (by rw [← hwd]; exact Hcd.out) (by kernel_rfl) (by kernel_rfl) (fun c a d v w h => by cases d <;> exact h) ?_
  rw [← hwd]
  clear hwd
  repeat (first
      | (refine' hold_skip ?_ ?_ ?_
         rotate_left 1
         · simp only [List.getElem?_toArray, List.getElem?_cons_zero, List.getElem?_cons_succ]; exact rfl
         · exact rfl
         simp only [Act.put, List.setIfInBounds_toArray, List.set_cons_zero, List.set_cons_succ])
      | (refine' hold_want ?_ ?_ (fun K hK => ?_)
         rotate_left 1
         · simp only [List.getElem?_toArray, List.getElem?_cons_zero, List.getElem?_cons_succ]; exact rfl
         · exact rfl
         first
         | (refine quiet_load_core _ rfl b off c1 rfl h71 ?_; refine hK _ ?_; clear hK K; try simp only [Act.put, List.setIfInBounds_toArray, List.set_cons_zero, List.set_cons_succ])
         | (refine quiet_load_core _ rfl b (off + 7) c2 rfl h72 ?_; refine hK _ ?_; clear hK K; try simp only [Act.put, List.setIfInBounds_toArray, List.set_cons_zero, List.set_cons_succ])
         | (go_big_quiet_op; refine hK _ ?_; clear hK K)))
  refine' hold_sole ?_ ?_ (fun K hK => ?_)
  rotate_left 1
  · simp only [List.getElem?_toArray, List.getElem?_cons_zero, List.getElem?_cons_succ]; exact rfl
  · exact rfl
  go_simp
  refine (Hc2.out).mono ?_
  rintro e w2 ⟨rfl, hm2, hf2⟩
  refine hK _ _ (Hcf.out _ _ Hcd.out hf2) ?_
  have hC2 := Hcf.out _ _ Hcd.out hf2
  have Hc3 := Lib.hid (Hc1.out w2 (Hcb.out _ hC2) (Nat.le_trans hAd hf2.below.size) hm2)
  have Hc2' := Lib.hid hC2
  have Hf2 := Lib.hid (hfd.out.trans hf2)
  clear hm2 hf2 hC2
  clear hK K
  try simp only [Act.put, List.setIfInBounds_toArray, List.set_cons_zero, List.set_cons_succ]
  refine' hold_sole ?_ ?_ (fun K hK => ?_)
  rotate_left 1
  · simp only [List.getElem?_toArray, List.getElem?_cons_zero, List.getElem?_cons_succ]; exact rfl
  · exact rfl
  go_simp
  refine (Hc3.out).mono ?_
  rintro e w3 ⟨rfl, hm3, hf3⟩
  refine hK _ _ (Hcf.out _ _ Hc2'.out hf3) ?_
  have Hm3 := Lib.hid hm3
  have Hf3 := Lib.hid (Hf2.out.trans hf3)
  clear hm3 hf3
  clear hK K
  try simp only [Act.put, List.setIfInBounds_toArray, List.set_cons_zero, List.set_cons_succ]
  clear h71 h72 k6
  repeat (first
      | (refine' hold_skip ?_ ?_ ?_
         rotate_left 1
         · simp only [List.getElem?_toArray, List.getElem?_cons_zero, List.getElem?_cons_succ]; exact rfl
         · exact rfl
         simp only [Act.put, List.setIfInBounds_toArray, List.set_cons_zero, List.set_cons_succ])
      | (refine' hold_want ?_ ?_ (fun K hK => ?_)
         rotate_left 1
         · simp only [List.getElem?_toArray, List.getElem?_cons_zero, List.getElem?_cons_succ]; exact rfl
         · exact rfl
         first
         | (go_big_quiet_op; refine hK _ ?_; clear hK K)))
  refine hold_done ?_
  go_wp2_with fail
  go_ret
  exact ⟨rfl, Hm3.out, Hf3.out⟩
set_option maxHeartbeats 4000000 in
theorem build_alt (x1 x2 : Cr) (f1 : x1.form = true) (f2 : x2.form = true) (ih1 : BuildOk x1) (ih2 : BuildOk x2) : BuildOk (.mk 4 0 0 [x1, x2]) := by
  intro W0 A m q nx cs S w hat hb0 hWA hAw hm hnx hw hcnt
  rw [at_mk] at hat
  obtain ⟨_, _, a, cap, rfl, hmax, hl⟩ := hat
  rw [bld_alt]
  rcases hl with h | ⟨b, off, rfl, hcap, hbw, hnodes⟩
  · simp at h
  obtain ⟨c1, hc1, hcell1, hat1⟩ := nodes_get W0 b [x1, x2] off hnodes 0 (by simp)
  obtain ⟨c2, hc2, hcell2, hat2⟩ := nodes_get W0 b [x1, x2] off hnodes 1 (by simp)
  simp only [List.getElem_cons_zero] at hat1
  simp only [List.getElem_cons_succ, List.getElem_cons_zero] at hat2
  rw [count_mk, counts_cons, counts_cons, counts_nil] at hcnt
  obtain ⟨wd, hwd⟩ : ∃ wd, wd = (w.alloc (.cells #[.int .i64 4, .int .u64 (word (0#256) 0), .int .u64 (word (0#256) 1), .int .u64 (word (0#256) 2), .int .u64 (word (0#256) 3), .int .i64 0, .slice (some ⟨b, off, none⟩) 2 cap] 28)).drew := ⟨_, rfl⟩
  have hw1 : Below w.heap.size w wd := by rw [hwd]; exact ((Below.refl _ _).alloc (Nat.le_refl _) _).drew
  have hbx : CoreIn wd w.heap.size #[.int .i64 4, .int .u64 (word (0#256) 0), .int .u64 (word (0#256) 1), .int .u64 (word (0#256) 2), .int .u64 (word (0#256) 3), .int .i64 0, .slice (some ⟨b, off, none⟩) 2 cap] := by rw [hwd]; exact World.alloc_heap_new w _
  have hmd := hm.below hw1
  have hfd := Lib.hid (Fr.of_below (T := maT) hw1 hAw)
  have hAd := Nat.le_trans hAw hw1.size
  have hbd : Below W0.heap.size W0 wd := hb0.trans (hw1.mono hb0.size)
  -- the class of worlds
  obtain ⟨C, hC⟩ : ∃ C : World → Prop, C = fun w' => CoreIn w' w.heap.size #[.int .i64 4, .int .u64 (word (0#256) 0), .int .u64 (word (0#256) 1), .int .u64 (word (0#256) 2), .int .u64 (word (0#256) 3), .int .i64 0, .slice (some ⟨b, off, none⟩) 2 cap] ∧ Below W0.heap.size W0 w' := ⟨_, rfl⟩
  have hCd : C wd := by rw [hC]; exact ⟨hbx, hbd⟩
  have hCf : ∀ w1 w2, C w1 → Fr maT A w1 w2 → C w2 := by
    rw [hC]
    exact fun w1 w2 h hf => ⟨hf.core h.1 (by decide), h.2.trans (hf.below.mono hWA)⟩
  have hCb : ∀ w', C w' → Below W0.heap.size W0 w' := by rw [hC]; exact fun w' h => h.2
  have k6 : ∀ L : HeldW C, L.val.cell? ⟨w.heap.size, 6, none⟩ = some (.slice (some ⟨b, off, none⟩) 2 cap) := by
    subst hC
    intro L
    rw [cells_at L.ok.1]; rfl
  have h71 : ∀ w', (∃ L : HeldW C, w' = L.val) → Core7 w' b off c1 := fun w' h => by
    obtain ⟨L, rfl⟩ := h
    exact ⟨hc1, fun q hq => by rw [(hCb _ L.ok).cell (p := ⟨b, off + q, none⟩) hbw]; have := hcell1 q hq; rw [Nat.zero_mul, Nat.add_zero] at this; exact this⟩
  have h72 : ∀ w', (∃ L : HeldW C, w' = L.val) → Core7 w' b (off + 7) c2 := fun w' h => by
    obtain ⟨L, rfl⟩ := h
    exact ⟨hc2, fun q hq => by rw [(hCb _ L.ok).cell (p := ⟨b, off + 7 + q, none⟩) hbw]; have := hcell2 q hq; rw [Nat.one_mul] at this; exact this⟩
  have hne : Nonempty (HeldW C) := HeldW.nonempty hCd
  have Hcb := Lib.hid hCb
  have Hcf := Lib.hid hCf
  have Hcd := Lib.hid hCd
  clear hC hbx hCb hCf hCd hnodes hcell1 hcell2 hw1 hmax hm
  have hbu1 := built x1 f1 S nx hnx hw
  have Hc1 := Lib.hid (ih1 W0 A m q nx c1 S wd hat1 hbd hWA hAd hmd hnx hw (by omega))
  have hfew1 := hbu1.few
  have hpre1 := hbu1.pre
  have hbu2 := built x2 f2 (x1.bld S nx).1 nx (by omega) hbu1.wf
  have hfew2 := hbu2.few
  have Hc2 := Lib.hid (fun w2 (hb2 : Below W0.heap.size W0 w2) (hA2 : A ≤ w2.heap.size) (hm2 : MachAt A w2 m (x1.bld S nx).1 q) => ih2 W0 A m q nx c2 (x1.bld S nx).1 w2 hat2 hb2 hWA hA2 hm2 (by omega) hbu1.wf (by omega))
  have hbig : (x2.bld (x1.bld S nx).1 nx).1.length ≤ 100000 := by omega
  obtain ⟨R, hR⟩ : ∃ R, R = x1.bld S nx := ⟨_, rfl⟩
  rw [← hR] at Hc2 Hc1 hbig ⊢
  obtain ⟨R2, hR2⟩ : ∃ R2, R2 = x2.bld R.1 nx := ⟨_, rfl⟩
  rw [← hR2] at Hc2 hbig ⊢
  clear hbu2 hbu1 hfew1 hfew2 hpre1 hR hR2 ih1 ih2 hat1 hat2 f1 f2 hw hcnt hmd hbd
  go_enter Try.func28, Try.ntmps28
  go_upto_region 9 with fail
  refine wp_region_hold C (.plain 0 (.plain 1 (.plain 2 (.plain 3 (.plain 4 (.plain 5 (.plain 6 (.plain 8 (.plain 9 (.plain 10 (.plain 11 (.plain 12 (.plain 13 (.sole 7 (.sole 14 (.plain 15 (.sole 16 (.plain 17 .done)))))))))))))))))) (by rw [← hwd]; exact Hcd.out) (by kernel_rfl) (by kernel_rfl) (fun c a d v w h => by cases d <;> exact h) ?_
  rw [← hwd]
  clear hwd
  repeat (first
      | (refine' hold_skip ?_ ?_ ?_
         rotate_left 1
         · simp only [List.getElem?_toArray, List.getElem?_cons_zero, List.getElem?_cons_succ]; exact rfl
         · exact rfl
         simp only [Act.put, List.setIfInBounds_toArray, List.set_cons_zero, List.set_cons_succ])
      | (refine' hold_want ?_ ?_ (fun K hK => ?_)
         rotate_left 1
         · simp only [List.getElem?_toArray, List.getElem?_cons_zero, List.getElem?_cons_succ]; exact rfl
         · exact rfl
         first
         | (refine quiet_load_core _ rfl b off c1 rfl h71 ?_; refine hK _ ?_; clear hK K; try simp only [Act.put, List.setIfInBounds_toArray, List.set_cons_zero, List.set_cons_succ])
         | (refine quiet_load_core _ rfl b (off + 7) c2 rfl h72 ?_; refine hK _ ?_; clear hK K; try simp only [Act.put, List.setIfInBounds_toArray, List.set_cons_zero, List.set_cons_succ])
         | (go_big_quiet_op; refine hK _ ?_; clear hK K)))
  refine' hold_sole ?_ ?_ (fun K hK => ?_)
  rotate_left 1
  · simp only [List.getElem?_toArray, List.getElem?_cons_zero, List.getElem?_cons_succ]; exact rfl
  · exact rfl
  go_simp
  refine (Hc1.out).mono ?_
  rintro e w2 ⟨rfl, hm2, hf2⟩
  refine hK _ _ (Hcf.out _ _ Hcd.out hf2) ?_
  have hC2 := Hcf.out _ _ Hcd.out hf2
  have Hc3 := Lib.hid (Hc2.out w2 (Hcb.out _ hC2) (Nat.le_trans hAd hf2.below.size) hm2)
  have Hc2' := Lib.hid hC2
  have hA2 := Nat.le_trans hAd hf2.below.size
  have Hf2 := Lib.hid (hfd.out.trans hf2)
  clear hm2 hf2 hC2
  clear hK K
  try simp only [Act.put, List.setIfInBounds_toArray, List.set_cons_zero, List.set_cons_succ]
  refine' hold_sole ?_ ?_ (fun K hK => ?_)
  rotate_left 1
  · simp only [List.getElem?_toArray, List.getElem?_cons_zero, List.getElem?_cons_succ]; exact rfl
  · exact rfl
  go_simp
  refine (Hc3.out).mono ?_
  rintro e w3 ⟨rfl, hm3, hf3⟩
  refine hK _ _ (Hcf.out _ _ Hc2'.out hf3) ?_
  have Hm3 := Lib.hid hm3
  have Hc3' := Lib.hid (Hcf.out _ _ Hc2'.out hf3)
  have hA3 := Nat.le_trans hA2 hf3.below.size
  have Hf3 := Lib.hid (Hf2.out.trans hf3)
  clear hm3 hf3
  clear hK K
  try simp only [Act.put, List.setIfInBounds_toArray, List.set_cons_zero, List.set_cons_succ]
  clear h71 h72 k6
  repeat (first
      | (refine' hold_skip ?_ ?_ ?_
         rotate_left 1
         · simp only [List.getElem?_toArray, List.getElem?_cons_zero, List.getElem?_cons_succ]; exact rfl
         · exact rfl
         simp only [Act.put, List.setIfInBounds_toArray, List.set_cons_zero, List.set_cons_succ])
      | (refine' hold_want ?_ ?_ (fun K hK => ?_)
         rotate_left 1
         · simp only [List.getElem?_toArray, List.getElem?_cons_zero, List.getElem?_cons_succ]; exact rfl
         · exact rfl
         first
         | (go_big_quiet_op; refine hK _ ?_; clear hK K)))
  refine' hold_sole ?_ ?_ (fun K hK => ?_)
  rotate_left 1
  · simp only [List.getElem?_toArray, List.getElem?_cons_zero, List.getElem?_cons_succ]; exact rfl
  · exact rfl
  go_simp
  refine (add_lit Hm3.out hbig hA3 ⟨true, 0, R.2, R2.2⟩ (by rw [st_zero]; try rfl)).mono ?_
  rintro e w4 ⟨rfl, hm4, hf4⟩
  refine hK _ _ (Hcf.out _ _ Hc3'.out hf4) ?_
  have Hm4 := Lib.hid hm4
  have Hf4 := Lib.hid (Hf3.out.trans hf4)
  clear hm4 hf4
  clear hK K
  try simp only [Act.put, List.setIfInBounds_toArray, List.set_cons_zero, List.set_cons_succ]
  repeat (first
      | (refine' hold_skip ?_ ?_ ?_
         rotate_left 1
         · simp only [List.getElem?_toArray, List.getElem?_cons_zero, List.getElem?_cons_succ]; exact rfl
         · exact rfl
         simp only [Act.put, List.setIfInBounds_toArray, List.set_cons_zero, List.set_cons_succ])
      | (refine' hold_want ?_ ?_ (fun K hK => ?_)
         rotate_left 1
         · simp only [List.getElem?_toArray, List.getElem?_cons_zero, List.getElem?_cons_succ]; exact rfl
         · exact rfl
         first
         | (go_big_quiet_op; refine hK _ ?_; clear hK K)))
  refine hold_done ?_
  go_wp2_with fail
  go_ret
  exact ⟨rfl, Hm4.out, Hf4.out⟩
theorem build_any : ∀ x : Cr, x.form = true → BuildOk x :=
  form_ind build_no build_em build_st (fun a b fa fb pa pb => build_cat a b fa fb pa pb) (fun a b fa fb pa pb => build_alt a b fa fb pa pb) (fun a fa pa => build_star a fa pa) (fun n a _ _ fa pa => build_grp n a fa pa) (fun a fa pa => build_ren a fa pa)
end K
end Go.Proofs.Ytobhjfhmhhahoaa
