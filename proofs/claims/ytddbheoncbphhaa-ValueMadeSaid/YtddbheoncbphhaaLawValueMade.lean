/- The law ValueMade, walked: any two cores, any two values. -/
import Derived.Test.YtddbheoncbphhaaValMade
import Derived.Test.YtddbheoncbphhaaValAwake
import Derived.Test.YtddbheoncbphhaaValWide
import Derived.Test.YtddbheoncbphhaaValOps
import Derived.Test.YtddbheoncbphhaaCoreBig
import Derived.Test.YtddbheoncbphhaaAnyGuard2
namespace Go.Proofs.Ytddbheoncbphhaa
namespace V
set_option maxRecDepth 100000
open Go.RowKit
def vm5 (_B0 : Nat) (x y : K.Cr) (v u : Vl) (p q : Bool) : List Fact := [
  isCore x,
  isVal v,
  isEq (.bool p),
  isCore y,
  isVal u,
  isEq (.bool q),
  isEq (.bool p),
  isEq (.bool q)]
theorem vm5_stable (B0 : Nat) (x y : K.Cr) (v u : Vl) (p q : Bool) : AllG (fun _ P => Stable P) 0 (vm5 B0 x y v u p q) := by
  unfold vm5
  refine AllG.cons (k' := 1) rfl (isCore.stable _) ?_
  refine AllG.cons (k' := 2) rfl (isVal.stable _) ?_
  refine AllG.cons (k' := 3) rfl (isEq.stable _) ?_
  refine AllG.cons (k' := 4) rfl (isCore.stable _) ?_
  refine AllG.cons (k' := 5) rfl (isVal.stable _) ?_
  refine AllG.cons (k' := 6) rfl (isEq.stable _) ?_
  refine AllG.cons (k' := 7) rfl (isEq.stable _) ?_
  refine AllG.cons (k' := 8) rfl (isEq.stable _) ?_
  exact AllG.nil

def vm7t (_B0 : Nat) (x y : K.Cr) (v u : Vl) (q : Bool) : List Fact := [
  isCore x,
  isCore y,
  isCore (K.Cr.mk 3 0 0 [x, y]),
  isVal (Vl.mk 3 0 [v, u]),
  isEq (.bool q),
  isEq (.bool true),
  isEq (.bool true),
  isEq (.bool q),
  isEq (.bool q),
  isEq (.bool true),
  isEq (.bool true),
  isCore x,
  isCore y,
  isCore (K.Cr.mk 4 0 0 [x, y]),
  isVal v,
  isVals [v],
  isVal (Vl.mk 4 0 [v]),
  isEq (.bool true),
  isEq (.bool true),
  isEq (.bool true),
  isEq (.bool true),
  isEq (.bool true),
  isCore x,
  isCore y,
  isCore (K.Cr.mk 4 0 0 [x, y]),
  isVal u,
  isVals [u],
  isVal (Vl.mk 5 0 [u]),
  isEq (.bool q),
  isEq (.bool q),
  isEq (.bool true),
  isEq (.bool true),
  isEq (.bool true),
  isCore x,
  isCore (K.Cr.mk 5 0 0 [x]),
  isVal v,
  isVal v,
  isVals [v, v],
  isVal (Vl.mk 6 0 [v, v]),
  isEq (.bool true),
  isEq (.bool true),
  isEq (.bool true),
  isEq (.bool true),
  isEq (.bool true),
  isCore x,
  isCore (K.Cr.mk 6 0 1 [x]),
  isVal v,
  isVals [v],
  isVal (Vl.mk 7 0 [v]),
  isEq (.bool true),
  isEq (.bool true),
  isEq (.bool true),
  isEq (.bool true),
  isEq (.bool true),
  isCore x,
  isCore (K.Cr.mk 7 0 0 [x]),
  isVal v,
  isEq (.bool true),
  isEq (.bool true),
  isEq (.bool true),
  isEq (.bool true),
  isEq (.bool true),
  isVal (Vl.mk 3 0 [v, u]),
  isEq (.int .i64 (wrap64 (v.meas.1 + u.meas.1))),
  isVal v,
  isEq (.int .i64 (v.meas.1)),
  isVal u,
  isEq (.int .i64 (u.meas.1)),
  isEq (.int .i64 (wrap64 (v.meas.1 + u.meas.1))),
  isEq (.bool true),
  isEq (.bool true),
  isEq (.bool true)]
theorem vm7t_stable (B0 : Nat) (x y : K.Cr) (v u : Vl) (q : Bool) : AllG (fun _ P => Stable P) 0 (vm7t B0 x y v u q) := by
  unfold vm7t
  refine AllG.cons (k' := 1) rfl (isCore.stable _) ?_
  refine AllG.cons (k' := 2) rfl (isCore.stable _) ?_
  refine AllG.cons (k' := 3) rfl (isCore.stable _) ?_
  refine AllG.cons (k' := 4) rfl (isVal.stable _) ?_
  refine AllG.cons (k' := 5) rfl (isEq.stable _) ?_
  refine AllG.cons (k' := 6) rfl (isEq.stable _) ?_
  refine AllG.cons (k' := 7) rfl (isEq.stable _) ?_
  refine AllG.cons (k' := 8) rfl (isEq.stable _) ?_
  refine AllG.cons (k' := 9) rfl (isEq.stable _) ?_
  refine AllG.cons (k' := 10) rfl (isEq.stable _) ?_
  refine AllG.cons (k' := 11) rfl (isEq.stable _) ?_
  refine AllG.cons (k' := 12) rfl (isCore.stable _) ?_
  refine AllG.cons (k' := 13) rfl (isCore.stable _) ?_
  refine AllG.cons (k' := 14) rfl (isCore.stable _) ?_
  refine AllG.cons (k' := 15) rfl (isVal.stable _) ?_
  refine AllG.cons (k' := 16) rfl (isVals.stable _) ?_
  refine AllG.cons (k' := 17) rfl (isVal.stable _) ?_
  refine AllG.cons (k' := 18) rfl (isEq.stable _) ?_
  refine AllG.cons (k' := 19) rfl (isEq.stable _) ?_
  refine AllG.cons (k' := 20) rfl (isEq.stable _) ?_
  refine AllG.cons (k' := 21) rfl (isEq.stable _) ?_
  refine AllG.cons (k' := 22) rfl (isEq.stable _) ?_
  refine AllG.cons (k' := 23) rfl (isCore.stable _) ?_
  refine AllG.cons (k' := 24) rfl (isCore.stable _) ?_
  refine AllG.cons (k' := 25) rfl (isCore.stable _) ?_
  refine AllG.cons (k' := 26) rfl (isVal.stable _) ?_
  refine AllG.cons (k' := 27) rfl (isVals.stable _) ?_
  refine AllG.cons (k' := 28) rfl (isVal.stable _) ?_
  refine AllG.cons (k' := 29) rfl (isEq.stable _) ?_
  refine AllG.cons (k' := 30) rfl (isEq.stable _) ?_
  refine AllG.cons (k' := 31) rfl (isEq.stable _) ?_
  refine AllG.cons (k' := 32) rfl (isEq.stable _) ?_
  refine AllG.cons (k' := 33) rfl (isEq.stable _) ?_
  refine AllG.cons (k' := 34) rfl (isCore.stable _) ?_
  refine AllG.cons (k' := 35) rfl (isCore.stable _) ?_
  refine AllG.cons (k' := 36) rfl (isVal.stable _) ?_
  refine AllG.cons (k' := 37) rfl (isVal.stable _) ?_
  refine AllG.cons (k' := 38) rfl (isVals.stable _) ?_
  refine AllG.cons (k' := 39) rfl (isVal.stable _) ?_
  refine AllG.cons (k' := 40) rfl (isEq.stable _) ?_
  refine AllG.cons (k' := 41) rfl (isEq.stable _) ?_
  refine AllG.cons (k' := 42) rfl (isEq.stable _) ?_
  refine AllG.cons (k' := 43) rfl (isEq.stable _) ?_
  refine AllG.cons (k' := 44) rfl (isEq.stable _) ?_
  refine AllG.cons (k' := 45) rfl (isCore.stable _) ?_
  refine AllG.cons (k' := 46) rfl (isCore.stable _) ?_
  refine AllG.cons (k' := 47) rfl (isVal.stable _) ?_
  refine AllG.cons (k' := 48) rfl (isVals.stable _) ?_
  refine AllG.cons (k' := 49) rfl (isVal.stable _) ?_
  refine AllG.cons (k' := 50) rfl (isEq.stable _) ?_
  refine AllG.cons (k' := 51) rfl (isEq.stable _) ?_
  refine AllG.cons (k' := 52) rfl (isEq.stable _) ?_
  refine AllG.cons (k' := 53) rfl (isEq.stable _) ?_
  refine AllG.cons (k' := 54) rfl (isEq.stable _) ?_
  refine AllG.cons (k' := 55) rfl (isCore.stable _) ?_
  refine AllG.cons (k' := 56) rfl (isCore.stable _) ?_
  refine AllG.cons (k' := 57) rfl (isVal.stable _) ?_
  refine AllG.cons (k' := 58) rfl (isEq.stable _) ?_
  refine AllG.cons (k' := 59) rfl (isEq.stable _) ?_
  refine AllG.cons (k' := 60) rfl (isEq.stable _) ?_
  refine AllG.cons (k' := 61) rfl (isEq.stable _) ?_
  refine AllG.cons (k' := 62) rfl (isEq.stable _) ?_
  refine AllG.cons (k' := 63) rfl (isVal.stable _) ?_
  refine AllG.cons (k' := 64) rfl (isEq.stable _) ?_
  refine AllG.cons (k' := 65) rfl (isVal.stable _) ?_
  refine AllG.cons (k' := 66) rfl (isEq.stable _) ?_
  refine AllG.cons (k' := 67) rfl (isVal.stable _) ?_
  refine AllG.cons (k' := 68) rfl (isEq.stable _) ?_
  refine AllG.cons (k' := 69) rfl (isEq.stable _) ?_
  refine AllG.cons (k' := 70) rfl (isEq.stable _) ?_
  refine AllG.cons (k' := 71) rfl (isEq.stable _) ?_
  refine AllG.cons (k' := 72) rfl (isEq.stable _) ?_
  exact AllG.nil

def vm7f (_B0 : Nat) (x y : K.Cr) (v u : Vl) (q : Bool) : List Fact := [
  isCore x,
  isCore y,
  isCore (K.Cr.mk 3 0 0 [x, y]),
  isVal (Vl.mk 3 0 [v, u]),
  isEq (.bool false),
  isEq (.bool false),
  isEq (.bool false),
  isEq (undef),
  isEq (.bool false),
  isEq (.bool true),
  isEq (.bool true),
  isCore x,
  isCore y,
  isCore (K.Cr.mk 4 0 0 [x, y]),
  isVal v,
  isVals [v],
  isVal (Vl.mk 4 0 [v]),
  isEq (.bool false),
  isEq (.bool false),
  isEq (.bool true),
  isEq (.bool true),
  isEq (.bool true),
  isCore x,
  isCore y,
  isCore (K.Cr.mk 4 0 0 [x, y]),
  isVal u,
  isVals [u],
  isVal (Vl.mk 5 0 [u]),
  isEq (.bool q),
  isEq (.bool q),
  isEq (.bool true),
  isEq (.bool true),
  isEq (.bool true),
  isCore x,
  isCore (K.Cr.mk 5 0 0 [x]),
  isVal v,
  isVal v,
  isVals [v, v],
  isVal (Vl.mk 6 0 [v, v]),
  isEq (.bool false),
  isEq (.bool false),
  isEq (.bool true),
  isEq (.bool true),
  isEq (.bool true),
  isCore x,
  isCore (K.Cr.mk 6 0 1 [x]),
  isVal v,
  isVals [v],
  isVal (Vl.mk 7 0 [v]),
  isEq (.bool false),
  isEq (.bool false),
  isEq (.bool true),
  isEq (.bool true),
  isEq (.bool true),
  isCore x,
  isCore (K.Cr.mk 7 0 0 [x]),
  isVal v,
  isEq (.bool false),
  isEq (.bool false),
  isEq (.bool true),
  isEq (.bool true),
  isEq (.bool true),
  isVal (Vl.mk 3 0 [v, u]),
  isEq (.int .i64 (wrap64 (v.meas.1 + u.meas.1))),
  isVal v,
  isEq (.int .i64 (v.meas.1)),
  isVal u,
  isEq (.int .i64 (u.meas.1)),
  isEq (.int .i64 (wrap64 (v.meas.1 + u.meas.1))),
  isEq (.bool true),
  isEq (.bool true),
  isEq (.bool true)]
theorem vm7f_stable (B0 : Nat) (x y : K.Cr) (v u : Vl) (q : Bool) : AllG (fun _ P => Stable P) 0 (vm7f B0 x y v u q) := by
  unfold vm7f
  refine AllG.cons (k' := 1) rfl (isCore.stable _) ?_
  refine AllG.cons (k' := 2) rfl (isCore.stable _) ?_
  refine AllG.cons (k' := 3) rfl (isCore.stable _) ?_
  refine AllG.cons (k' := 4) rfl (isVal.stable _) ?_
  refine AllG.cons (k' := 5) rfl (isEq.stable _) ?_
  refine AllG.cons (k' := 6) rfl (isEq.stable _) ?_
  refine AllG.cons (k' := 7) rfl (isEq.stable _) ?_
  refine AllG.cons (k' := 8) rfl (isEq.stable _) ?_
  refine AllG.cons (k' := 9) rfl (isEq.stable _) ?_
  refine AllG.cons (k' := 10) rfl (isEq.stable _) ?_
  refine AllG.cons (k' := 11) rfl (isEq.stable _) ?_
  refine AllG.cons (k' := 12) rfl (isCore.stable _) ?_
  refine AllG.cons (k' := 13) rfl (isCore.stable _) ?_
  refine AllG.cons (k' := 14) rfl (isCore.stable _) ?_
  refine AllG.cons (k' := 15) rfl (isVal.stable _) ?_
  refine AllG.cons (k' := 16) rfl (isVals.stable _) ?_
  refine AllG.cons (k' := 17) rfl (isVal.stable _) ?_
  refine AllG.cons (k' := 18) rfl (isEq.stable _) ?_
  refine AllG.cons (k' := 19) rfl (isEq.stable _) ?_
  refine AllG.cons (k' := 20) rfl (isEq.stable _) ?_
  refine AllG.cons (k' := 21) rfl (isEq.stable _) ?_
  refine AllG.cons (k' := 22) rfl (isEq.stable _) ?_
  refine AllG.cons (k' := 23) rfl (isCore.stable _) ?_
  refine AllG.cons (k' := 24) rfl (isCore.stable _) ?_
  refine AllG.cons (k' := 25) rfl (isCore.stable _) ?_
  refine AllG.cons (k' := 26) rfl (isVal.stable _) ?_
  refine AllG.cons (k' := 27) rfl (isVals.stable _) ?_
  refine AllG.cons (k' := 28) rfl (isVal.stable _) ?_
  refine AllG.cons (k' := 29) rfl (isEq.stable _) ?_
  refine AllG.cons (k' := 30) rfl (isEq.stable _) ?_
  refine AllG.cons (k' := 31) rfl (isEq.stable _) ?_
  refine AllG.cons (k' := 32) rfl (isEq.stable _) ?_
  refine AllG.cons (k' := 33) rfl (isEq.stable _) ?_
  refine AllG.cons (k' := 34) rfl (isCore.stable _) ?_
  refine AllG.cons (k' := 35) rfl (isCore.stable _) ?_
  refine AllG.cons (k' := 36) rfl (isVal.stable _) ?_
  refine AllG.cons (k' := 37) rfl (isVal.stable _) ?_
  refine AllG.cons (k' := 38) rfl (isVals.stable _) ?_
  refine AllG.cons (k' := 39) rfl (isVal.stable _) ?_
  refine AllG.cons (k' := 40) rfl (isEq.stable _) ?_
  refine AllG.cons (k' := 41) rfl (isEq.stable _) ?_
  refine AllG.cons (k' := 42) rfl (isEq.stable _) ?_
  refine AllG.cons (k' := 43) rfl (isEq.stable _) ?_
  refine AllG.cons (k' := 44) rfl (isEq.stable _) ?_
  refine AllG.cons (k' := 45) rfl (isCore.stable _) ?_
  refine AllG.cons (k' := 46) rfl (isCore.stable _) ?_
  refine AllG.cons (k' := 47) rfl (isVal.stable _) ?_
  refine AllG.cons (k' := 48) rfl (isVals.stable _) ?_
  refine AllG.cons (k' := 49) rfl (isVal.stable _) ?_
  refine AllG.cons (k' := 50) rfl (isEq.stable _) ?_
  refine AllG.cons (k' := 51) rfl (isEq.stable _) ?_
  refine AllG.cons (k' := 52) rfl (isEq.stable _) ?_
  refine AllG.cons (k' := 53) rfl (isEq.stable _) ?_
  refine AllG.cons (k' := 54) rfl (isEq.stable _) ?_
  refine AllG.cons (k' := 55) rfl (isCore.stable _) ?_
  refine AllG.cons (k' := 56) rfl (isCore.stable _) ?_
  refine AllG.cons (k' := 57) rfl (isVal.stable _) ?_
  refine AllG.cons (k' := 58) rfl (isEq.stable _) ?_
  refine AllG.cons (k' := 59) rfl (isEq.stable _) ?_
  refine AllG.cons (k' := 60) rfl (isEq.stable _) ?_
  refine AllG.cons (k' := 61) rfl (isEq.stable _) ?_
  refine AllG.cons (k' := 62) rfl (isEq.stable _) ?_
  refine AllG.cons (k' := 63) rfl (isVal.stable _) ?_
  refine AllG.cons (k' := 64) rfl (isEq.stable _) ?_
  refine AllG.cons (k' := 65) rfl (isVal.stable _) ?_
  refine AllG.cons (k' := 66) rfl (isEq.stable _) ?_
  refine AllG.cons (k' := 67) rfl (isVal.stable _) ?_
  refine AllG.cons (k' := 68) rfl (isEq.stable _) ?_
  refine AllG.cons (k' := 69) rfl (isEq.stable _) ?_
  refine AllG.cons (k' := 70) rfl (isEq.stable _) ?_
  refine AllG.cons (k' := 71) rfl (isEq.stable _) ?_
  refine AllG.cons (k' := 72) rfl (isEq.stable _) ?_
  exact AllG.nil
set_option maxHeartbeats 16000000 in
theorem valueMade_walk (x : K.Cr) (cs : List Value) (y : K.Cr) (cs2 : List Value) (v : Vl) (ds : List Value) (u : Vl) (es : List Value) (w : World) (hx : K.Cr.at w x cs) (hy : K.Cr.at w y cs2) (hv : Vl.at w v ds) (hu : Vl.at w u es) :
    Calls Try.prog 6 #[.agg cs.toArray, .agg cs2.toArray, .agg ds.toArray, .agg es.toArray] w fun e w' => e = .returned (.bool true) ∧ Below w.heap.size w w' := by
  obtain ⟨W, hW⟩ : ∃ W, W = (((w.alloc (.cells cs.toArray 31)).alloc (.cells cs2.toArray 31)).alloc (.cells ds.toArray 25)).alloc (.cells es.toArray 25) := ⟨_, rfl⟩
  have hbW : Below w.heap.size w W := by rw [hW]; exact (((((Below.refl _ _).alloc (Nat.le_refl _) _).alloc (by simp) _).alloc (by simp; omega) _).alloc (by simp; omega) _)
  have hsW : W.heap.size = w.heap.size + 4 := by rw [hW]; simp
  have hxx : K.Core7 W w.heap.size 0 cs := by
    have h := World.alloc_heap_new w (.cells cs.toArray 31)
    rw [hW]
    exact core7_below (K.core7_in h (K.at_len hx)) (B := w.heap.size + 1) (by omega) ((((Below.refl _ _).alloc (by first | (simp; done) | (simp; omega)) _).alloc (by first | (simp; done) | (simp; omega)) _).alloc (by first | (simp; done) | (simp; omega)) _)
  have hxy : K.Core7 W (w.heap.size + 1) 0 cs2 := by
    have h := World.alloc_heap_new (w.alloc (.cells cs.toArray 31)) (.cells cs2.toArray 31)
    rw [World.size_alloc] at h
    rw [hW]
    exact core7_below (K.core7_in h (K.at_len hy)) (B := w.heap.size + 2) (by omega) (((Below.refl _ _).alloc (by first | (simp; done) | (simp; omega)) _).alloc (by first | (simp; done) | (simp; omega)) _)
  have hxv : Val3 W (w.heap.size + 2) 0 ds := by
    have h := World.alloc_heap_new ((w.alloc (.cells cs.toArray 31)).alloc (.cells cs2.toArray 31)) (.cells ds.toArray 25)
    rw [World.size_alloc, World.size_alloc] at h
    rw [hW]
    exact Val3.below (val3_in h (at_len hv)) (B := w.heap.size + 3) (by omega) ((Below.refl _ _).alloc (by first | (simp; done) | (simp; omega)) _)
  have hxu : Val3 W (w.heap.size + 3) 0 es := by
    have h := World.alloc_heap_new (((w.alloc (.cells cs.toArray 31)).alloc (.cells cs2.toArray 31)).alloc (.cells ds.toArray 25)) (.cells es.toArray 25)
    rw [World.size_alloc, World.size_alloc, World.size_alloc] at h
    rw [hW]
    exact (val3_in h (at_len hu))
  have HXx : Hid (∀ w', Below W.heap.size W w' → K.Core7 w' w.heap.size 0 cs) := Lib.hid fun w' h => core7_below hxx (by omega) h
  have HAx : Hid (∀ w', Below W.heap.size W w' → K.Cr.at w' x cs) := Lib.hid fun w' h => K.Cr.at_below (hbW.trans (h.mono hbW.size)) (Nat.le_refl _) _ _ hx
  have HXy : Hid (∀ w', Below W.heap.size W w' → K.Core7 w' (w.heap.size + 1) 0 cs2) := Lib.hid fun w' h => core7_below hxy (by omega) h
  have HAy : Hid (∀ w', Below W.heap.size W w' → K.Cr.at w' y cs2) := Lib.hid fun w' h => K.Cr.at_below (hbW.trans (h.mono hbW.size)) (Nat.le_refl _) _ _ hy
  have HXv : Hid (∀ w', Below W.heap.size W w' → Val3 w' (w.heap.size + 2) 0 ds) := Lib.hid fun w' h => Val3.below hxv (by omega) h
  have HAv : Hid (∀ w', Below W.heap.size W w' → Vl.at w' v ds) := Lib.hid fun w' h => Vl.at_below (hbW.trans (h.mono hbW.size)) (Nat.le_refl _) _ _ hv
  have HXu : Hid (∀ w', Below W.heap.size W w' → Val3 w' (w.heap.size + 3) 0 es) := Lib.hid fun w' h => Val3.below hxu (by omega) h
  have HAu : Hid (∀ w', Below W.heap.size W w' → Vl.at w' u es) := Lib.hid fun w' h => Vl.at_below (hbW.trans (h.mono hbW.size)) (Nat.le_refl _) _ _ hu
  have HbW := Lib.hid hbW
  have HsW := Lib.hid hsW
  clear hbW hsW hxx hxy hxv hxu
  have Haw : Hid (∀ w', Below W.heap.size W w' → Calls Try.prog 8 #[] w' fun e w' => e = .returned (.bool true) ∧ Below W.heap.size W w') := Lib.hid fun w' h => by
    refine (awake_any w').mono ?_
    rintro e w3 ⟨rfl, hb⟩
    exact ⟨rfl, h.trans (hb.mono h.size)⟩
  have Hbbx : Hid (∀ w', Below W.heap.size W w' → Calls Try.prog 23 #[.agg cs.toArray, .int .i64 60] w' fun e w' => e = .returned (.bool (K.bigN 60 x)) ∧ Below W.heap.size W w') := Lib.hid fun w' h => by
    refine (K.big_any 60 x cs w' (by decide) (HAx.out w' h)).mono ?_
    rintro e w3 ⟨rfl, hb⟩
    exact ⟨rfl, h.trans (hb.mono h.size)⟩
  have Hbby : Hid (∀ w', Below W.heap.size W w' → Calls Try.prog 23 #[.agg cs2.toArray, .int .i64 60] w' fun e w' => e = .returned (.bool (K.bigN 60 y)) ∧ Below W.heap.size W w') := Lib.hid fun w' h => by
    refine (K.big_any 60 y cs2 w' (by decide) (HAy.out w' h)).mono ?_
    rintro e w3 ⟨rfl, hb⟩
    exact ⟨rfl, h.trans (hb.mono h.size)⟩
  have Hwv : Hid (∀ w', Below W.heap.size W w' → Calls Try.prog 24 #[.agg ds.toArray, .int .i64 30] w' fun e w' => e = .returned (.bool (wideN 30 v)) ∧ Below W.heap.size W w') := Lib.hid fun w' h => by
    refine (wide_any 30 v ds w' (by decide) (HAv.out w' h)).mono ?_
    rintro e w3 ⟨rfl, hb⟩
    exact ⟨rfl, h.trans (hb.mono h.size)⟩
  have Hwu : Hid (∀ w', Below W.heap.size W w' → Calls Try.prog 24 #[.agg es.toArray, .int .i64 30] w' fun e w' => e = .returned (.bool (wideN 30 u)) ∧ Below W.heap.size W w') := Lib.hid fun w' h => by
    refine (wide_any 30 u es w' (by decide) (HAu.out w' h)).mono ?_
    rintro e w3 ⟨rfl, hb⟩
    exact ⟨rfl, h.trans (hb.mono h.size)⟩
  obtain ⟨k1, s1, n1, a1, len1, cap1, rfl⟩ := K.at_lit hx
  obtain ⟨k4, s4, n4, a4, len4, cap4, rfl⟩ := K.at_lit hy
  obtain ⟨k2, z2, a2, len2, cap2, rfl⟩ := at_lit hv
  obtain ⟨k3, z3, a3, len3, cap3, rfl⟩ := at_lit hu
  have Hsq : Hid (∀ w', Below W.heap.size W w' → Calls Try.prog 34 #[.agg (#[.int .i64 k1, .int .u64 (word s1 0), .int .u64 (word s1 1), .int .u64 (word s1 2), .int .u64 (word s1 3), .int .i64 n1, .slice a1 len1 cap1] : Array Value), .agg (#[.int .i64 k4, .int .u64 (word s4 0), .int .u64 (word s4 1), .int .u64 (word s4 2), .int .u64 (word s4 3), .int .i64 n4, .slice a4 len4 cap4] : Array Value)] w' fun e w'' => (∃ zs : List Value, e = .returned (.agg zs.toArray) ∧ K.Cr.at w'' (.mk 3 0 0 [x, y]) zs) ∧ Below W.heap.size W w'') := Lib.hid fun w' h => by
    refine (K.seq_walk (cs := [.int .i64 k1, .int .u64 (word s1 0), .int .u64 (word s1 1), .int .u64 (word s1 2), .int .u64 (word s1 3), .int .i64 n1, .slice a1 len1 cap1]) (ds := [.int .i64 k4, .int .u64 (word s4 0), .int .u64 (word s4 1), .int .u64 (word s4 2), .int .u64 (word s4 3), .int .i64 n4, .slice a4 len4 cap4]) (HAx.out w' h) (HAy.out w' h)).mono ?_
    rintro e w3 ⟨zs, rfl, hat, hb⟩
    exact ⟨⟨zs, rfl, hat⟩, h.trans (hb.mono h.size)⟩
  clear hx hy hv hu
  cases B0 : K.bigN 60 x with
  | true =>
    rw [B0] at Hbbx
    go_enter Try.func6, Try.ntmps6
    go_upto_region 1 with fail
    rw [← hW]
    clear hW
    go_wp2_with (first
      | (go_at_call 8; refine (Haw.out _ (Below.refl _ _)).mono ?_; rintro e W1 ⟨rfl, hb1⟩; have q0x := HXx.out _ hb1; have call0 := Hbbx.out _ hb1; clear hb1)
      | (refine K.wpList_load_core rfl _ rfl w.heap.size 0 _ rfl q0x ?_)
      | (go_at_call 23; refine call0.mono ?_; clear call0; rintro e W2 ⟨rfl, hb2⟩; clear q0x; have Hb2 := Lib.hid hb2; clear hb2)
      | fail)
    go_ret
    exact ⟨rfl, HbW.out.trans (Hb2.out.mono HbW.out.size)⟩
  | false =>
  rw [B0] at Hbbx
  cases B1 : K.bigN 60 y with
  | true =>
    rw [B1] at Hbby
    go_enter Try.func6, Try.ntmps6
    go_upto_region 1 with fail
    rw [← hW]
    clear hW
    go_wp2_with (first
      | (go_at_call 8; refine (Haw.out _ (Below.refl _ _)).mono ?_; rintro e W1 ⟨rfl, hb1⟩; have q0x := HXx.out _ hb1; have call0 := Hbbx.out _ hb1; clear hb1)
      | (refine K.wpList_load_core rfl _ rfl w.heap.size 0 _ rfl q0x ?_)
      | (go_at_call 23; refine call0.mono ?_; clear call0; rintro e W2 ⟨rfl, hb2⟩; clear q0x; have q1y := HXy.out _ hb2; have call1 := Hbby.out _ hb2; clear hb2)
      | (refine K.wpList_load_node_want rfl _ rfl (w.heap.size + 1) 0 _ rfl q1y ?_)
      | (go_at_call 23; refine call1.mono ?_; clear call1; rintro e W3 ⟨rfl, hb3⟩; clear q1y; have Hb3 := Lib.hid hb3; clear hb3)
      | fail)
    go_ret
    exact ⟨rfl, HbW.out.trans (Hb3.out.mono HbW.out.size)⟩
  | false =>
  rw [B1] at Hbby
  cases B2 : wideN 30 v with
  | true =>
    rw [B2] at Hwv
    go_enter Try.func6, Try.ntmps6
    go_upto_region 1 with fail
    rw [← hW]
    clear hW
    go_wp2_with (first
      | (go_at_call 8; refine (Haw.out _ (Below.refl _ _)).mono ?_; rintro e W1 ⟨rfl, hb1⟩; have q0x := HXx.out _ hb1; have call0 := Hbbx.out _ hb1; clear hb1)
      | (refine K.wpList_load_core rfl _ rfl w.heap.size 0 _ rfl q0x ?_)
      | (go_at_call 23; refine call0.mono ?_; clear call0; rintro e W2 ⟨rfl, hb2⟩; clear q0x; have q1y := HXy.out _ hb2; have call1 := Hbby.out _ hb2; clear hb2)
      | (refine K.wpList_load_node_want rfl _ rfl (w.heap.size + 1) 0 _ rfl q1y ?_)
      | (go_at_call 23; refine call1.mono ?_; clear call1; rintro e W3 ⟨rfl, hb3⟩; clear q1y; have q2v := HXv.out _ hb3; have call2 := Hwv.out _ hb3; clear hb3)
      | (refine wpList_load_val_want rfl _ rfl (w.heap.size + 2) 0 _ rfl q2v ?_)
      | (go_at_call 24; refine call2.mono ?_; clear call2; rintro e W4 ⟨rfl, hb4⟩; clear q2v; have Hb4 := Lib.hid hb4; clear hb4)
      | fail)
    go_ret
    exact ⟨rfl, HbW.out.trans (Hb4.out.mono HbW.out.size)⟩
  | false =>
  rw [B2] at Hwv
  cases B3 : wideN 30 u with
  | true =>
    rw [B3] at Hwu
    go_enter Try.func6, Try.ntmps6
    go_upto_region 1 with fail
    rw [← hW]
    clear hW
    go_wp2_with (first
      | (go_at_call 8; refine (Haw.out _ (Below.refl _ _)).mono ?_; rintro e W1 ⟨rfl, hb1⟩; have q0x := HXx.out _ hb1; have call0 := Hbbx.out _ hb1; clear hb1)
      | (refine K.wpList_load_core rfl _ rfl w.heap.size 0 _ rfl q0x ?_)
      | (go_at_call 23; refine call0.mono ?_; clear call0; rintro e W2 ⟨rfl, hb2⟩; clear q0x; have q1y := HXy.out _ hb2; have call1 := Hbby.out _ hb2; clear hb2)
      | (refine K.wpList_load_node_want rfl _ rfl (w.heap.size + 1) 0 _ rfl q1y ?_)
      | (go_at_call 23; refine call1.mono ?_; clear call1; rintro e W3 ⟨rfl, hb3⟩; clear q1y; have q2v := HXv.out _ hb3; have call2 := Hwv.out _ hb3; clear hb3)
      | (refine wpList_load_val_want rfl _ rfl (w.heap.size + 2) 0 _ rfl q2v ?_)
      | (go_at_call 24; refine call2.mono ?_; clear call2; rintro e W4 ⟨rfl, hb4⟩; clear q2v; have q3u := HXu.out _ hb4; have call3 := Hwu.out _ hb4; clear hb4)
      | (refine wpList_load_val_want rfl _ rfl (w.heap.size + 3) 0 _ rfl q3u ?_)
      | (go_at_call 24; refine call3.mono ?_; clear call3; rintro e W5 ⟨rfl, hb5⟩; clear q3u; have Hb5 := Lib.hid hb5; clear hb5)
      | fail)
    go_ret
    exact ⟨rfl, HbW.out.trans (Hb5.out.mono HbW.out.size)⟩
  | false =>
  rw [B3] at Hwu
  cases B5 : K.goodC (.mk 3 0 0 [x, y]) with
  | false =>
    go_enter Try.func6, Try.ntmps6
    go_upto_region 1 with fail
    rw [← hW]
    clear hW
    go_wp2_with (first
      | (go_at_call 8; refine (Haw.out _ (Below.refl _ _)).mono ?_; rintro e W1 ⟨rfl, hb1⟩; have q0x := HXx.out _ hb1; have call0 := Hbbx.out _ hb1; clear hb1)
      | (refine K.wpList_load_core rfl _ rfl w.heap.size 0 _ rfl q0x ?_)
      | (go_at_call 23; refine call0.mono ?_; clear call0; rintro e W2 ⟨rfl, hb2⟩; clear q0x; have q1y := HXy.out _ hb2; have call1 := Hbby.out _ hb2; clear hb2)
      | (refine K.wpList_load_node_want rfl _ rfl (w.heap.size + 1) 0 _ rfl q1y ?_)
      | (go_at_call 23; refine call1.mono ?_; clear call1; rintro e W3 ⟨rfl, hb3⟩; clear q1y; have q2v := HXv.out _ hb3; have call2 := Hwv.out _ hb3; clear hb3)
      | (refine wpList_load_val_want rfl _ rfl (w.heap.size + 2) 0 _ rfl q2v ?_)
      | (go_at_call 24; refine call2.mono ?_; clear call2; rintro e W4 ⟨rfl, hb4⟩; clear q2v; have q3u := HXu.out _ hb4; have call3 := Hwu.out _ hb4; clear hb4)
      | (refine wpList_load_val_want rfl _ rfl (w.heap.size + 3) 0 _ rfl q3u ?_)
      | (go_at_call 24; refine call3.mono ?_; clear call3; rintro e W5 ⟨rfl, hb5⟩; clear q3u; have qsx := HXx.out _ hb5; have qsy := HXy.out _ hb5; have calls := Hsq.out _ hb5; clear hb5)
      | (refine K.wpList_load_node_want rfl _ rfl w.heap.size 0 _ rfl qsx ?_)
      | (refine K.wpList_load_node_want rfl _ rfl (w.heap.size + 1) 0 _ rfl qsy ?_)
      | (go_at_call 34; refine calls.mono ?_; clear calls qsx qsy; rintro e W6 ⟨⟨zs, rfl, hat⟩, hb6⟩; have callg := K.good_walk hat; have ha := K.at_lit hat; obtain ⟨k9, s9, n9, a9, len9, cap9, rfl⟩ := ha; have Hb6 := Lib.hid hb6; rw [B5] at callg; clear hb6 hat)
      | (go_at_call 33; refine callg.mono ?_; clear callg; rintro e W7 ⟨rfl, hb7⟩; have Hb7 := Lib.hid (Hb6.out.trans (hb7.mono Hb6.out.size)); clear hb7)
      | fail)
    go_ret
    exact ⟨rfl, HbW.out.trans (Hb7.out.mono HbW.out.size)⟩
  | true =>
  obtain ⟨p, hp⟩ : ∃ p, goodV x v = p := ⟨_, rfl⟩
  obtain ⟨q, hq⟩ : ∃ q, goodV y u = q := ⟨_, rfl⟩
  have Hp := Lib.hid hp
  have Hq := Lib.hid hq
  have HB5 := Lib.hid B5
  clear hp hq B0 B1 B2 B3
  go_enter Try.func6, Try.ntmps6
  go_upto_region 1 with fail
  rw [← hW]
  clear hW
  go_wp2_with (first
    | (go_at_call 8; refine (Haw.out _ (Below.refl _ _)).mono ?_; rintro e W1 ⟨rfl, hb1⟩; have q0x := HXx.out _ hb1; have call0 := Hbbx.out _ hb1; clear hb1)
    | (refine K.wpList_load_core rfl _ rfl w.heap.size 0 _ rfl q0x ?_)
    | (go_at_call 23; refine call0.mono ?_; clear call0; rintro e W2 ⟨rfl, hb2⟩; clear q0x; have q1y := HXy.out _ hb2; have call1 := Hbby.out _ hb2; clear hb2)
    | (refine K.wpList_load_node_want rfl _ rfl (w.heap.size + 1) 0 _ rfl q1y ?_)
    | (go_at_call 23; refine call1.mono ?_; clear call1; rintro e W3 ⟨rfl, hb3⟩; clear q1y; have q2v := HXv.out _ hb3; have call2 := Hwv.out _ hb3; clear hb3)
    | (refine wpList_load_val_want rfl _ rfl (w.heap.size + 2) 0 _ rfl q2v ?_)
    | (go_at_call 24; refine call2.mono ?_; clear call2; rintro e W4 ⟨rfl, hb4⟩; clear q2v; have q3u := HXu.out _ hb4; have call3 := Hwu.out _ hb4; clear hb4)
    | (refine wpList_load_val_want rfl _ rfl (w.heap.size + 3) 0 _ rfl q3u ?_)
    | (go_at_call 24; refine call3.mono ?_; clear call3; rintro e W5 ⟨rfl, hb5⟩; clear q3u; have qsx := HXx.out _ hb5; have qsy := HXy.out _ hb5; have calls := Hsq.out _ hb5; clear hb5)
    | (refine K.wpList_load_node_want rfl _ rfl w.heap.size 0 _ rfl qsx ?_)
    | (refine K.wpList_load_node_want rfl _ rfl (w.heap.size + 1) 0 _ rfl qsy ?_)
    | (go_at_call 34; refine calls.mono ?_; clear calls qsx qsy; rintro e W6 ⟨⟨zs, rfl, hat⟩, hb6⟩; have callg := K.good_walk hat; have ha := K.at_lit hat; obtain ⟨k9, s9, n9, a9, len9, cap9, rfl⟩ := ha; have Hb6 := Lib.hid hb6; rw [B5] at callg; clear hb6 hat)
    | (go_at_call 33; refine callg.mono ?_; clear callg; rintro e W7 ⟨rfl, hb7⟩; have Hb7 := Lib.hid (Hb6.out.trans (hb7.mono Hb6.out.size)); clear hb7)
    | fail)
  have BX4 := Lib.hid (fun (w' : World) (h : Below W7.heap.size W7 w') => And.intro (HXx.out _ (Hb7.out.trans (h.mono Hb7.out.size))) (HAx.out _ (Hb7.out.trans (h.mono Hb7.out.size))))
  have BX5 := Lib.hid (fun (w' : World) (h : Below W7.heap.size W7 w') => And.intro (HXy.out _ (Hb7.out.trans (h.mono Hb7.out.size))) (HAy.out _ (Hb7.out.trans (h.mono Hb7.out.size))))
  have BX6 := Lib.hid (fun (w' : World) (h : Below W7.heap.size W7 w') => And.intro (HXv.out _ (Hb7.out.trans (h.mono Hb7.out.size))) (HAv.out _ (Hb7.out.trans (h.mono Hb7.out.size))))
  have BX7 := Lib.hid (fun (w' : World) (h : Below W7.heap.size W7 w') => And.intro (HXu.out _ (Hb7.out.trans (h.mono Hb7.out.size))) (HAu.out _ (Hb7.out.trans (h.mono Hb7.out.size))))
  clear Haw Hbbx Hbby Hwv Hwu Hsq
  go_cut [9, 10] from 35 to 40 (fun v9 v10 wx => v9 = .bool p ∧ v10 = .bool q ∧ ∃ W8, W8 = wx ∧ Below W7.heap.size W7 W8)
  case first =>
   rename_i J K' hR hMet
   refine wp_region_guards (factAt (vm5 W7.heap.size x y v u p q)) (W0 := W7) (by kernel_rfl) (by kernel_rfl) (by kernel_rfl) (Below.refl _ _) (fun i v w w' h hk => factAt_stable (vm5_stable _ _ _ _ _ _ _) i v w w' h hk) [] (by kernel_rfl) ?hgu ?hop ?hend
   case hgu =>
     intro j hj v w h
     simp at hj
   case hop =>
     refine AllG.get0 ?_
     refine AllG.cons (k' := 1) rfl ?_ ?_
     · intro a' w' hB hk hin KK hK
       refine wp_load_coreK _ rfl w.heap.size 0 _ (eval_tmp (by rw [hk 4 (by kernel_rfl)]; rfl)) (BX4.out _ hB).1 ?_
       exact hK _ _ hB (KeepsC.of_below (Below.refl _ _)) (fact_put (P := isCore x) rfl ⟨_, rfl, (BX4.out _ hB).2⟩)
     refine AllG.cons (k' := 2) rfl ?_ ?_
     · intro a' w' hB hk hin KK hK
       refine wp_load_valK _ rfl (w.heap.size + 2) 0 _ (eval_tmp (by rw [hk 6 (by kernel_rfl)]; rfl)) (BX6.out _ hB).1 ?_
       exact hK _ _ hB (KeepsC.of_below (Below.refl _ _)) (fact_put (P := isVal v) rfl ⟨_, rfl, (BX6.out _ hB).2⟩)
     refine AllG.cons (k' := 3) rfl ?_ ?_
     · intro a' w' hB hk hin KK hK
       obtain ⟨v1, e1, q1⟩ := hin 0 _ 35 rfl rfl ⟨{ on := 0, ground := .data }, by simp, rfl, rfl⟩
       have q1 := fact_get (P := isCore x) rfl q1
       obtain ⟨zs1, r1, hat1⟩ := q1
       subst r1
       obtain ⟨v2, e2, q2⟩ := hin 1 _ 36 rfl rfl ⟨{ on := 1, ground := .data }, by simp, rfl, rfl⟩
       have q2 := fact_get (P := isVal v) rfl q2
       obtain ⟨zs2, r2, hat2⟩ := q2
       subst r2
       unfold Oper.wp execOp
       go_simp
       refine (good_eq (b := p) hat1 hat2 Hp.out).mono ?_
       rintro e wn ⟨rfl, hbn⟩
       exact hK _ _ (hB.trans (hbn.mono hB.size)) (KeepsC.of_below hbn) (fact_put (P := isEq (.bool p)) rfl rfl)
     refine AllG.cons (k' := 4) rfl ?_ ?_
     · intro a' w' hB hk hin KK hK
       refine wp_load_coreK _ rfl (w.heap.size + 1) 0 _ (eval_tmp (by rw [hk 5 (by kernel_rfl)]; rfl)) (BX5.out _ hB).1 ?_
       exact hK _ _ hB (KeepsC.of_below (Below.refl _ _)) (fact_put (P := isCore y) rfl ⟨_, rfl, (BX5.out _ hB).2⟩)
     refine AllG.cons (k' := 5) rfl ?_ ?_
     · intro a' w' hB hk hin KK hK
       refine wp_load_valK _ rfl (w.heap.size + 3) 0 _ (eval_tmp (by rw [hk 7 (by kernel_rfl)]; rfl)) (BX7.out _ hB).1 ?_
       exact hK _ _ hB (KeepsC.of_below (Below.refl _ _)) (fact_put (P := isVal u) rfl ⟨_, rfl, (BX7.out _ hB).2⟩)
     refine AllG.cons (k' := 6) rfl ?_ ?_
     · intro a' w' hB hk hin KK hK
       obtain ⟨v3, e3, q3⟩ := hin 3 _ 38 rfl rfl ⟨{ on := 3, ground := .data }, by simp, rfl, rfl⟩
       have q3 := fact_get (P := isCore y) rfl q3
       obtain ⟨zs3, r3, hat3⟩ := q3
       subst r3
       obtain ⟨v4, e4, q4⟩ := hin 4 _ 39 rfl rfl ⟨{ on := 4, ground := .data }, by simp, rfl, rfl⟩
       have q4 := fact_get (P := isVal u) rfl q4
       obtain ⟨zs4, r4, hat4⟩ := q4
       subst r4
       unfold Oper.wp execOp
       go_simp
       refine (good_eq (b := q) hat3 hat4 Hq.out).mono ?_
       rintro e wn ⟨rfl, hbn⟩
       exact hK _ _ (hB.trans (hbn.mono hB.size)) (KeepsC.of_below hbn) (fact_put (P := isEq (.bool q)) rfl rfl)
     refine AllG.cons (k' := 7) rfl ?_ ?_
     · intro a' w' hB hk hin KK hK
       obtain ⟨v5, e5, q5⟩ := hin 2 _ 37 rfl rfl ⟨{ on := 2, ground := .data }, by simp, rfl, rfl⟩
       have q5 := fact_get (P := isEq (.bool p)) rfl q5
       have q5' : v5 = .bool p := q5
       subst q5'
       unfold Oper.wp execOp
       go_simp
       exact hK _ _ hB (KeepsC.of_below (Below.refl _ _)) (fact_put (P := isEq (.bool p)) rfl rfl)
     refine AllG.cons (k' := 8) rfl ?_ ?_
     · intro a' w' hB hk hin KK hK
       obtain ⟨v6, e6, q6⟩ := hin 5 _ 40 rfl rfl ⟨{ on := 5, ground := .data }, by simp, rfl, rfl⟩
       have q6 := fact_get (P := isEq (.bool q)) rfl q6
       have q6' : v6 = .bool q := q6
       subst q6'
       unfold Oper.wp execOp
       go_simp
       exact hK _ _ hB (KeepsC.of_below (Below.refl _ _)) (fact_put (P := isEq (.bool q)) rfl rfl)
     exact AllG.nil
   case hend =>
    intro a' w' hB hdef hsz hk hvals
    obtain ⟨v9', hv9', hvt9⟩ := hvals 6 _ 9 rfl rfl
    have hvt9' := fact_get (P := isEq (.bool p)) rfl hvt9
    have hvt29 : v9' = .bool p := hvt9'
    subst hvt29
    have hf9 : a'.tmps.getD 9 undef = .bool p := by rw [Array.getD_eq_getD_getElem?, hv9']; rfl
    obtain ⟨v10', hv10', hvt10⟩ := hvals 7 _ 10 rfl rfl
    have hvt10' := fact_get (P := isEq (.bool q)) rfl hvt10
    have hvt210 : v10' = .bool q := hvt10'
    subst hvt210
    have hf10 : a'.tmps.getD 10 undef = .bool q := by rw [Array.getD_eq_getD_getElem?, hv10']; rfl
    have heq := act_eq hdef hsz hk
    refine hMet a' w' (Met.intro (hR a' w' ?_))
    refine ⟨a'.tmps.getD 9 undef, a'.tmps.getD 10 undef, a'.tmps.getD 35 undef, a'.tmps.getD 36 undef, a'.tmps.getD 37 undef, a'.tmps.getD 38 undef, a'.tmps.getD 39 undef, a'.tmps.getD 40 undef, ⟨hf9, hf10, _, rfl, hB⟩, heq.trans ?_⟩
    kernel_rfl
  case rest =>
   obtain ⟨rfl, rfl, W8, hw8, hBc⟩ := hcut
   subst hw8
   have q6 := (BX6.out W8 hBc).1
   have q7 := (BX7.out W8 hBc).1
   obtain ⟨W9, hW9⟩ : ∃ W9, W9 = (W8.alloc (.cells #[.int .i64 k2, .int .u8 z2, .slice a2 len2 cap2, .int .i64 k3, .int .u8 z3, .slice a3 len3 cap3] 25)).alloc (.cells #[.int .i64 3, .int .u8 0, .slice (some ⟨W8.heap.size, 0, none⟩) 2 2] 25) := ⟨_, rfl⟩
   obtain ⟨b11, hb11⟩ : ∃ b11, b11 = W8.heap.size + 1 := ⟨_, rfl⟩
   have hS9 : Below W8.heap.size W8 W9 := by rw [hW9]; exact ((Below.refl _ _).alloc (Nat.le_refl _) _).alloc (by simp) _
   have h79 : Below W7.heap.size W7 W9 := hBc.trans (hS9.mono hBc.size)
   have hbox : ValIn W9 b11 #[.int .i64 3, .int .u8 0, .slice (some ⟨W8.heap.size, 0, none⟩) 2 2] := by
     have h := World.alloc_heap_new (W8.alloc (.cells #[.int .i64 k2, .int .u8 z2, .slice a2 len2 cap2, .int .i64 k3, .int .u8 z3, .slice a3 len3 cap3] 25)) (.cells #[.int .i64 3, .int .u8 0, .slice (some ⟨W8.heap.size, 0, none⟩) 2 2] 25)
     rw [World.size_alloc, ← hb11] at h
     rw [hW9]; exact h
   have hlist : ListAt (W8.alloc (.cells #[.int .i64 k2, .int .u8 z2, .slice a2 len2 cap2, .int .i64 k3, .int .u8 z3, .slice a3 len3 cap3] 25)) [v, u] (.slice (some ⟨W8.heap.size, 0, none⟩) 2 2) := vals_lit W8 [(v, [.int .i64 k2, .int .u8 z2, .slice a2 len2 cap2]), (u, [.int .i64 k3, .int .u8 z3, .slice a3 len3 cap3])] (by
     intro p hp
     simp only [List.mem_cons, List.not_mem_nil, or_false] at hp
     rcases hp with rfl | rfl
     · exact (BX6.out W8 hBc).2
     · exact (BX7.out W8 hBc).2) _ rfl (by show 2 ≤ maxLen; decide)
   have hat : Vl.at W9 (.mk 3 0 [v, u]) [.int .i64 3, .int .u8 0, .slice (some ⟨W8.heap.size, 0, none⟩) 2 2] := by
     rw [hW9]; exact at_of_list (hlist.below (K.alloc_below _ _)) rfl (by decide)
   have BY4 := Lib.hid (fun (w' : World) (h : Below W9.heap.size W9 w') => BX4.out w' (h79.trans (h.mono h79.size)))
   have BY5 := Lib.hid (fun (w' : World) (h : Below W9.heap.size W9 w') => BX5.out w' (h79.trans (h.mono h79.size)))
   have BY6 := Lib.hid (fun (w' : World) (h : Below W9.heap.size W9 w') => BX6.out w' (h79.trans (h.mono h79.size)))
   have BY7 := Lib.hid (fun (w' : World) (h : Below W9.heap.size W9 w') => BX7.out w' (h79.trans (h.mono h79.size)))
   have BX11 := Lib.hid (fun (w' : World) (h : Below W9.heap.size W9 w') => And.intro (val3_in (cs := [.int .i64 3, .int .u8 0, .slice (some ⟨W8.heap.size, 0, none⟩) 2 2]) (val_later h hbox) rfl) (Vl.at_below h (Nat.le_refl _) _ _ hat))
   have HB9 := Lib.hid (HbW.out.trans ((Hb7.out.trans (h79.mono Hb7.out.size)).mono HbW.out.size))
   clear BX4 BX5 BX6 BX7 hS9 h79 hbox hlist hat hBc
   have BX4 := BY4
   have BX5 := BY5
   have BX6 := BY6
   have BX7 := BY7
   clear BY4 BY5 BY6 BY7
   go_upto_region 7 with (first
     | (refine wpList_load_val rfl _ rfl (w.heap.size + 2) 0 _ rfl q6 ?_)
     | (refine wpList_load_val rfl _ rfl (w.heap.size + 3) 0 _ rfl q7 ?_)
     | fail)
   rw [← hW9, ← hb11]
   clear hW9 hb11 q6 q7
   cases p with
   | false =>
    go_cut [8] from 45 to 115 (fun v wx => v = .bool true ∧ Below W9.heap.size W9 wx)
    case first =>
     rename_i J K' hR hMet
     refine wp_region_guards2 (factAt (vm7f W9.heap.size x y v u q)) (W0 := W9) (by kernel_rfl) (by kernel_rfl) (by kernel_rfl) (Below.refl _ _) (fun i v w w' h hk => factAt_stable (vm7f_stable _ _ _ _ _ _) i v w w' h hk) [(6, false), (10, true), (21, true), (32, true), (43, true), (53, true), (61, true)] (by kernel_rfl) ?hgu ?hskip ?hop ?hend
     case hgu =>
       intro j hj v w h
       simp only [List.mem_cons, List.not_mem_nil, or_false] at hj
       rcases hj with rfl | rfl | rfl | rfl | rfl | rfl | rfl
       · exact fact_get (P := isEq (.bool false)) rfl h
       · exact fact_get (P := isEq (.bool true)) rfl h
       · exact fact_get (P := isEq (.bool true)) rfl h
       · exact fact_get (P := isEq (.bool true)) rfl h
       · exact fact_get (P := isEq (.bool true)) rfl h
       · exact fact_get (P := isEq (.bool true)) rfl h
       · exact fact_get (P := isEq (.bool true)) rfl h
     case hskip =>
       refine AllG.get0 ?_
       refine AllG.cons (k' := 1) rfl (fun h => by have h' : true = false := h; cases h') ?_
       refine AllG.cons (k' := 2) rfl (fun h => by have h' : true = false := h; cases h') ?_
       refine AllG.cons (k' := 3) rfl (fun h => by have h' : true = false := h; cases h') ?_
       refine AllG.cons (k' := 4) rfl (fun h => by have h' : true = false := h; cases h') ?_
       refine AllG.cons (k' := 5) rfl (fun h => by have h' : true = false := h; cases h') ?_
       refine AllG.cons (k' := 6) rfl (fun h => by have h' : true = false := h; cases h') ?_
       refine AllG.cons (k' := 7) rfl (fun h => by have h' : true = false := h; cases h') ?_
       refine AllG.cons (k' := 8) rfl (fun _ _ => fact_put (P := isEq undef) rfl rfl) ?_
       refine AllG.cons (k' := 9) rfl (fun h => by have h' : true = false := h; cases h') ?_
       refine AllG.cons (k' := 10) rfl (fun h => by have h' : true = false := h; cases h') ?_
       refine AllG.cons (k' := 11) rfl (fun h => by have h' : true = false := h; cases h') ?_
       refine AllG.cons (k' := 12) rfl (fun h => by have h' : true = false := h; cases h') ?_
       refine AllG.cons (k' := 13) rfl (fun h => by have h' : true = false := h; cases h') ?_
       refine AllG.cons (k' := 14) rfl (fun h => by have h' : true = false := h; cases h') ?_
       refine AllG.cons (k' := 15) rfl (fun h => by have h' : true = false := h; cases h') ?_
       refine AllG.cons (k' := 16) rfl (fun h => by have h' : true = false := h; cases h') ?_
       refine AllG.cons (k' := 17) rfl (fun h => by have h' : true = false := h; cases h') ?_
       refine AllG.cons (k' := 18) rfl (fun h => by have h' : true = false := h; cases h') ?_
       refine AllG.cons (k' := 19) rfl (fun h => by have h' : true = false := h; cases h') ?_
       refine AllG.cons (k' := 20) rfl (fun h => by have h' : true = false := h; cases h') ?_
       refine AllG.cons (k' := 21) rfl (fun h => by have h' : true = false := h; cases h') ?_
       refine AllG.cons (k' := 22) rfl (fun h => by have h' : true = false := h; cases h') ?_
       refine AllG.cons (k' := 23) rfl (fun h => by have h' : true = false := h; cases h') ?_
       refine AllG.cons (k' := 24) rfl (fun h => by have h' : true = false := h; cases h') ?_
       refine AllG.cons (k' := 25) rfl (fun h => by have h' : true = false := h; cases h') ?_
       refine AllG.cons (k' := 26) rfl (fun h => by have h' : true = false := h; cases h') ?_
       refine AllG.cons (k' := 27) rfl (fun h => by have h' : true = false := h; cases h') ?_
       refine AllG.cons (k' := 28) rfl (fun h => by have h' : true = false := h; cases h') ?_
       refine AllG.cons (k' := 29) rfl (fun h => by have h' : true = false := h; cases h') ?_
       refine AllG.cons (k' := 30) rfl (fun h => by have h' : true = false := h; cases h') ?_
       refine AllG.cons (k' := 31) rfl (fun h => by have h' : true = false := h; cases h') ?_
       refine AllG.cons (k' := 32) rfl (fun h => by have h' : true = false := h; cases h') ?_
       refine AllG.cons (k' := 33) rfl (fun h => by have h' : true = false := h; cases h') ?_
       refine AllG.cons (k' := 34) rfl (fun h => by have h' : true = false := h; cases h') ?_
       refine AllG.cons (k' := 35) rfl (fun h => by have h' : true = false := h; cases h') ?_
       refine AllG.cons (k' := 36) rfl (fun h => by have h' : true = false := h; cases h') ?_
       refine AllG.cons (k' := 37) rfl (fun h => by have h' : true = false := h; cases h') ?_
       refine AllG.cons (k' := 38) rfl (fun h => by have h' : true = false := h; cases h') ?_
       refine AllG.cons (k' := 39) rfl (fun h => by have h' : true = false := h; cases h') ?_
       refine AllG.cons (k' := 40) rfl (fun h => by have h' : true = false := h; cases h') ?_
       refine AllG.cons (k' := 41) rfl (fun h => by have h' : true = false := h; cases h') ?_
       refine AllG.cons (k' := 42) rfl (fun h => by have h' : true = false := h; cases h') ?_
       refine AllG.cons (k' := 43) rfl (fun h => by have h' : true = false := h; cases h') ?_
       refine AllG.cons (k' := 44) rfl (fun h => by have h' : true = false := h; cases h') ?_
       refine AllG.cons (k' := 45) rfl (fun h => by have h' : true = false := h; cases h') ?_
       refine AllG.cons (k' := 46) rfl (fun h => by have h' : true = false := h; cases h') ?_
       refine AllG.cons (k' := 47) rfl (fun h => by have h' : true = false := h; cases h') ?_
       refine AllG.cons (k' := 48) rfl (fun h => by have h' : true = false := h; cases h') ?_
       refine AllG.cons (k' := 49) rfl (fun h => by have h' : true = false := h; cases h') ?_
       refine AllG.cons (k' := 50) rfl (fun h => by have h' : true = false := h; cases h') ?_
       refine AllG.cons (k' := 51) rfl (fun h => by have h' : true = false := h; cases h') ?_
       refine AllG.cons (k' := 52) rfl (fun h => by have h' : true = false := h; cases h') ?_
       refine AllG.cons (k' := 53) rfl (fun h => by have h' : true = false := h; cases h') ?_
       refine AllG.cons (k' := 54) rfl (fun h => by have h' : true = false := h; cases h') ?_
       refine AllG.cons (k' := 55) rfl (fun h => by have h' : true = false := h; cases h') ?_
       refine AllG.cons (k' := 56) rfl (fun h => by have h' : true = false := h; cases h') ?_
       refine AllG.cons (k' := 57) rfl (fun h => by have h' : true = false := h; cases h') ?_
       refine AllG.cons (k' := 58) rfl (fun h => by have h' : true = false := h; cases h') ?_
       refine AllG.cons (k' := 59) rfl (fun h => by have h' : true = false := h; cases h') ?_
       refine AllG.cons (k' := 60) rfl (fun h => by have h' : true = false := h; cases h') ?_
       refine AllG.cons (k' := 61) rfl (fun h => by have h' : true = false := h; cases h') ?_
       refine AllG.cons (k' := 62) rfl (fun h => by have h' : true = false := h; cases h') ?_
       refine AllG.cons (k' := 63) rfl (fun h => by have h' : true = false := h; cases h') ?_
       refine AllG.cons (k' := 64) rfl (fun h => by have h' : true = false := h; cases h') ?_
       refine AllG.cons (k' := 65) rfl (fun h => by have h' : true = false := h; cases h') ?_
       refine AllG.cons (k' := 66) rfl (fun h => by have h' : true = false := h; cases h') ?_
       refine AllG.cons (k' := 67) rfl (fun h => by have h' : true = false := h; cases h') ?_
       refine AllG.cons (k' := 68) rfl (fun h => by have h' : true = false := h; cases h') ?_
       refine AllG.cons (k' := 69) rfl (fun h => by have h' : true = false := h; cases h') ?_
       refine AllG.cons (k' := 70) rfl (fun h => by have h' : true = false := h; cases h') ?_
       refine AllG.cons (k' := 71) rfl (fun h => by have h' : true = false := h; cases h') ?_
       refine AllG.cons (k' := 72) rfl (fun h => by have h' : true = false := h; cases h') ?_
       exact AllG.nil
     case hop =>
       refine AllG.get0 ?_
       refine AllG.cons (k' := 1) rfl ?_ ?_
       · intro _
         intro a' w' hB hk hin KK hK
         refine wp_load_coreK _ rfl w.heap.size 0 _ (eval_tmp (by rw [hk 4 (by kernel_rfl)]; rfl)) (BX4.out _ hB).1 ?_
         exact hK _ _ hB (KeepsC.of_below (Below.refl _ _)) (fact_put (P := isCore x) rfl ⟨_, rfl, (BX4.out _ hB).2⟩)
       refine AllG.cons (k' := 2) rfl ?_ ?_
       · intro _
         intro a' w' hB hk hin KK hK
         refine wp_load_coreK _ rfl (w.heap.size + 1) 0 _ (eval_tmp (by rw [hk 5 (by kernel_rfl)]; rfl)) (BX5.out _ hB).1 ?_
         exact hK _ _ hB (KeepsC.of_below (Below.refl _ _)) (fact_put (P := isCore y) rfl ⟨_, rfl, (BX5.out _ hB).2⟩)
       refine AllG.cons (k' := 3) rfl ?_ ?_
       · intro _
         intro a' w' hB hk hin KK hK
         obtain ⟨v1, e1, q1⟩ := hin 0 _ 45 rfl rfl ⟨{ on := 0, ground := .data }, by simp, rfl, rfl⟩
         have q1 := fact_get (P := isCore x) rfl q1
         obtain ⟨zs1, r1, hat1⟩ := q1
         subst r1
         obtain ⟨v2, e2, q2⟩ := hin 1 _ 46 rfl rfl ⟨{ on := 1, ground := .data }, by simp, rfl, rfl⟩
         have q2 := fact_get (P := isCore y) rfl q2
         obtain ⟨zs2, r2, hat2⟩ := q2
         subst r2
         unfold Oper.wp execOp
         go_simp
         refine (K.seq_walk hat1 hat2).mono ?_
         rintro e wn ⟨zz, rfl, hat, hbn⟩
         exact hK _ _ (hB.trans (hbn.mono hB.size)) (KeepsC.of_below hbn) (fact_put (P := isCore (K.Cr.mk 3 0 0 [x, y])) rfl ⟨zz, rfl, hat⟩)
       refine AllG.cons (k' := 4) rfl ?_ ?_
       · intro _
         intro a' w' hB hk hin KK hK
         refine wp_load_valK _ rfl b11 0 _ (eval_tmp (by rw [hk 11 (by kernel_rfl)]; rfl)) (BX11.out _ hB).1 ?_
         exact hK _ _ hB (KeepsC.of_below (Below.refl _ _)) (fact_put (P := isVal (Vl.mk 3 0 [v, u])) rfl ⟨_, rfl, (BX11.out _ hB).2⟩)
       refine AllG.cons (k' := 5) rfl ?_ ?_
       · intro _
         intro a' w' hB hk hin KK hK
         obtain ⟨v3, e3, q3⟩ := hin 2 _ 47 rfl rfl ⟨{ on := 2, ground := .data }, by simp, rfl, rfl⟩
         have q3 := fact_get (P := isCore (K.Cr.mk 3 0 0 [x, y])) rfl q3
         obtain ⟨zs3, r3, hat3⟩ := q3
         subst r3
         obtain ⟨v4, e4, q4⟩ := hin 3 _ 48 rfl rfl ⟨{ on := 3, ground := .data }, by simp, rfl, rfl⟩
         have q4 := fact_get (P := isVal (Vl.mk 3 0 [v, u])) rfl q4
         obtain ⟨zs4, r4, hat4⟩ := q4
         subst r4
         unfold Oper.wp execOp
         go_simp
         refine (good_eq (b := false) hat3 hat4 ((made_seq B5 v u).trans (by rw [Hp.out, Hq.out]; simp))).mono ?_
         rintro e wn ⟨rfl, hbn⟩
         exact hK _ _ (hB.trans (hbn.mono hB.size)) (KeepsC.of_below hbn) (fact_put (P := isEq (.bool false)) rfl rfl)
       refine AllG.cons (k' := 6) rfl ?_ ?_
       · intro _
         intro a' w' hB hk hin KK hK
         have hkk : a'.tmps[9]? = some (.bool false) := (hk 9 (by kernel_rfl)).trans rfl
         have hev := eval_tmp hkk
         unfold Oper.wp execOp
         simp only [hev, Sem.run_pure]
         exact hK _ _ hB (KeepsC.of_below (Below.refl _ _)) (fact_put (P := isEq (.bool false)) rfl rfl)
       refine AllG.cons (k' := 7) rfl ?_ ?_
       · intro _
         intro a' w' hB hk hin KK hK
         obtain ⟨v5, e5, q5⟩ := hin 5 _ 50 rfl rfl ⟨{ on := 5, ground := .data }, by simp, rfl, rfl⟩
         have q5 := fact_get (P := isEq (.bool false)) rfl q5
         have q5' : v5 = .bool false := q5
         subst q5'
         unfold Oper.wp execOp
         go_simp
         exact hK _ _ hB (KeepsC.of_below (Below.refl _ _)) (fact_put (P := isEq (.bool false)) rfl rfl)
       refine AllG.cons (k' := 8) rfl (fun h => by have h' : false = true := h; cases h') ?_
       refine AllG.cons (k' := 9) rfl ?_ ?_
       · intro _
         intro a' w' hB hk hin KK hK
         obtain ⟨v6, e6, q6⟩ := hin 6 _ 51 rfl rfl ⟨{ on := 6, ground := .data }, by simp, rfl, rfl⟩
         have q6 := fact_get (P := isEq (.bool false)) rfl q6
         have q6' : v6 = .bool false := q6
         subst q6'
         obtain ⟨v7, e7, q7⟩ := hin 7 _ 52 rfl rfl ⟨{ on := 7, ground := .data }, by simp, rfl, rfl⟩
         have q7 := fact_get (P := isEq (undef)) rfl q7
         have q7' : v7 = undef := q7
         subst q7'
         unfold Oper.wp execOp
         go_simp
         exact hK _ _ hB (KeepsC.of_below (Below.refl _ _)) (fact_put (P := isEq (.bool false)) rfl rfl)
       refine AllG.cons (k' := 10) rfl ?_ ?_
       · intro _
         intro a' w' hB hk hin KK hK
         obtain ⟨v8, e8, q8⟩ := hin 4 _ 49 rfl rfl ⟨{ on := 4, ground := .data }, by simp, rfl, rfl⟩
         have q8 := fact_get (P := isEq (.bool false)) rfl q8
         have q8' : v8 = .bool false := q8
         subst q8'
         obtain ⟨v9, e9, q9⟩ := hin 8 _ 53 rfl rfl ⟨{ on := 8, ground := .data }, by simp, rfl, rfl⟩
         have q9 := fact_get (P := isEq (.bool false)) rfl q9
         have q9' : v9 = .bool false := q9
         subst q9'
         unfold Oper.wp execOp
         go_simp
         exact hK _ _ hB (KeepsC.of_below (Below.refl _ _)) (fact_put (P := isEq (.bool true)) rfl (by show Value.bool _ = Value.bool _; simp))
       refine AllG.cons (k' := 11) rfl ?_ ?_
       · intro _
         intro a' w' hB hk hin KK hK
         obtain ⟨v10, e10, q10⟩ := hin 9 _ 54 rfl rfl ⟨{ on := 9, ground := .data }, by simp, rfl, rfl⟩
         have q10 := fact_get (P := isEq (.bool true)) rfl q10
         have q10' : v10 = .bool true := q10
         subst q10'
         unfold Oper.wp execOp
         go_simp
         exact hK _ _ hB (KeepsC.of_below (Below.refl _ _)) (fact_put (P := isEq (.bool true)) rfl rfl)
       refine AllG.cons (k' := 12) rfl ?_ ?_
       · intro _
         intro a' w' hB hk hin KK hK
         refine wp_load_coreK _ rfl w.heap.size 0 _ (eval_tmp (by rw [hk 4 (by kernel_rfl)]; rfl)) (BX4.out _ hB).1 ?_
         exact hK _ _ hB (KeepsC.of_below (Below.refl _ _)) (fact_put (P := isCore x) rfl ⟨_, rfl, (BX4.out _ hB).2⟩)
       refine AllG.cons (k' := 13) rfl ?_ ?_
       · intro _
         intro a' w' hB hk hin KK hK
         refine wp_load_coreK _ rfl (w.heap.size + 1) 0 _ (eval_tmp (by rw [hk 5 (by kernel_rfl)]; rfl)) (BX5.out _ hB).1 ?_
         exact hK _ _ hB (KeepsC.of_below (Below.refl _ _)) (fact_put (P := isCore y) rfl ⟨_, rfl, (BX5.out _ hB).2⟩)
       refine AllG.cons (k' := 14) rfl ?_ ?_
       · intro _
         intro a' w' hB hk hin KK hK
         obtain ⟨v11, e11, q11⟩ := hin 11 _ 56 rfl rfl ⟨{ on := 11, ground := .data }, by simp, rfl, rfl⟩
         have q11 := fact_get (P := isCore x) rfl q11
         obtain ⟨zs11, r11, hat11⟩ := q11
         subst r11
         obtain ⟨v12, e12, q12⟩ := hin 12 _ 57 rfl rfl ⟨{ on := 12, ground := .data }, by simp, rfl, rfl⟩
         have q12 := fact_get (P := isCore y) rfl q12
         obtain ⟨zs12, r12, hat12⟩ := q12
         subst r12
         unfold Oper.wp execOp
         go_simp
         refine (K.alt_walk hat11 hat12).mono ?_
         rintro e wn ⟨zz, rfl, hat, hbn⟩
         exact hK _ _ (hB.trans (hbn.mono hB.size)) (KeepsC.of_below hbn) (fact_put (P := isCore (K.Cr.mk 4 0 0 [x, y])) rfl ⟨zz, rfl, hat⟩)
       refine AllG.cons (k' := 15) rfl ?_ ?_
       · intro _
         intro a' w' hB hk hin KK hK
         refine wp_load_valK _ rfl (w.heap.size + 2) 0 _ (eval_tmp (by rw [hk 6 (by kernel_rfl)]; rfl)) (BX6.out _ hB).1 ?_
         exact hK _ _ hB (KeepsC.of_below (Below.refl _ _)) (fact_put (P := isVal v) rfl ⟨_, rfl, (BX6.out _ hB).2⟩)
       refine AllG.cons (k' := 16) rfl ?_ ?_
       · intro _
         intro a' w' hB hk hin KK hK
         obtain ⟨v13, e13, q13⟩ := hin 14 _ 59 rfl rfl ⟨{ on := 14, ground := .data }, by simp, rfl, rfl⟩
         have q13 := fact_get (P := isVal v) rfl q13
         obtain ⟨zs13, r13, hat13⟩ := q13
         subst r13
         have ha13 := at_lit hat13
         obtain ⟨k13, z13, a13, len13, cap13, rfl⟩ := ha13
         have hv := fun cs hc => vals_lit w' [(v, [.int .i64 k13, .int .u8 z13, .slice a13 len13 cap13])] (by intro p hp; simp only [List.mem_cons, List.not_mem_nil, or_false] at hp; rcases hp with rfl <;> assumption) cs hc (by show 1 ≤ maxLen; decide)
         unfold Oper.wp execOp
         go_simp
         exact hK _ _ (hB.alloc hB.size _) (KeepsC.of_below ((Below.refl _ _).alloc (Nat.le_refl _) _)) (fact_put (P := isVals [v]) rfl (hv _ rfl))
       refine AllG.cons (k' := 17) rfl ?_ ?_
       · intro _
         intro a' w' hB hk hin KK hK
         obtain ⟨v14, e14, q14⟩ := hin 15 _ 60 rfl rfl ⟨{ on := 15, ground := .data }, by simp, rfl, rfl⟩
         have q14 := fact_get (P := isVals [v]) rfl q14
         have hl14 := q14
         obtain ⟨a14, cap14, r14, _⟩ := q14
         subst r14
         unfold Oper.wp execOp
         go_simp
         exact hK _ _ hB (KeepsC.of_below (Below.refl _ _)) (fact_put (P := isVal (Vl.mk 4 0 [v])) rfl ⟨[_, _, _], rfl, at_of_list hl14 rfl (by decide)⟩)
       refine AllG.cons (k' := 18) rfl ?_ ?_
       · intro _
         intro a' w' hB hk hin KK hK
         obtain ⟨v15, e15, q15⟩ := hin 13 _ 58 rfl rfl ⟨{ on := 13, ground := .data }, by simp, rfl, rfl⟩
         have q15 := fact_get (P := isCore (K.Cr.mk 4 0 0 [x, y])) rfl q15
         obtain ⟨zs15, r15, hat15⟩ := q15
         subst r15
         obtain ⟨v16, e16, q16⟩ := hin 16 _ 61 rfl rfl ⟨{ on := 16, ground := .data }, by simp, rfl, rfl⟩
         have q16 := fact_get (P := isVal (Vl.mk 4 0 [v])) rfl q16
         obtain ⟨zs16, r16, hat16⟩ := q16
         subst r16
         unfold Oper.wp execOp
         go_simp
         refine (good_eq (b := false) hat15 hat16 ((made_left B5 v).trans Hp.out)).mono ?_
         rintro e wn ⟨rfl, hbn⟩
         exact hK _ _ (hB.trans (hbn.mono hB.size)) (KeepsC.of_below hbn) (fact_put (P := isEq (.bool false)) rfl rfl)
       refine AllG.cons (k' := 19) rfl ?_ ?_
       · intro _
         intro a' w' hB hk hin KK hK
         have hkk : a'.tmps[9]? = some (.bool false) := (hk 9 (by kernel_rfl)).trans rfl
         have hev := eval_tmp hkk
         unfold Oper.wp execOp
         simp only [hev, Sem.run_pure]
         exact hK _ _ hB (KeepsC.of_below (Below.refl _ _)) (fact_put (P := isEq (.bool false)) rfl rfl)
       refine AllG.cons (k' := 20) rfl ?_ ?_
       · intro _
         intro a' w' hB hk hin KK hK
         obtain ⟨v17, e17, q17⟩ := hin 17 _ 62 rfl rfl ⟨{ on := 17, ground := .data }, by simp, rfl, rfl⟩
         have q17 := fact_get (P := isEq (.bool false)) rfl q17
         have q17' : v17 = .bool false := q17
         subst q17'
         obtain ⟨v18, e18, q18⟩ := hin 18 _ 63 rfl rfl ⟨{ on := 18, ground := .data }, by simp, rfl, rfl⟩
         have q18 := fact_get (P := isEq (.bool false)) rfl q18
         have q18' : v18 = .bool false := q18
         subst q18'
         unfold Oper.wp execOp
         go_simp
         exact hK _ _ hB (KeepsC.of_below (Below.refl _ _)) (fact_put (P := isEq (.bool true)) rfl (by show Value.bool _ = Value.bool _; simp))
       refine AllG.cons (k' := 21) rfl ?_ ?_
       · intro _
         intro a' w' hB hk hin KK hK
         obtain ⟨v19, e19, q19⟩ := hin 10 _ 55 rfl rfl ⟨{ on := 10, ground := .data }, by simp, rfl, rfl⟩
         have q19 := fact_get (P := isEq (.bool true)) rfl q19
         have q19' : v19 = .bool true := q19
         subst q19'
         obtain ⟨v20, e20, q20⟩ := hin 19 _ 64 rfl rfl ⟨{ on := 19, ground := .data }, by simp, rfl, rfl⟩
         have q20 := fact_get (P := isEq (.bool true)) rfl q20
         have q20' : v20 = .bool true := q20
         subst q20'
         unfold Oper.wp execOp
         go_simp
         exact hK _ _ hB (KeepsC.of_below (Below.refl _ _)) (fact_put (P := isEq (.bool true)) rfl rfl)
       refine AllG.cons (k' := 22) rfl ?_ ?_
       · intro _
         intro a' w' hB hk hin KK hK
         obtain ⟨v21, e21, q21⟩ := hin 20 _ 65 rfl rfl ⟨{ on := 20, ground := .data }, by simp, rfl, rfl⟩
         have q21 := fact_get (P := isEq (.bool true)) rfl q21
         have q21' : v21 = .bool true := q21
         subst q21'
         unfold Oper.wp execOp
         go_simp
         exact hK _ _ hB (KeepsC.of_below (Below.refl _ _)) (fact_put (P := isEq (.bool true)) rfl rfl)
       refine AllG.cons (k' := 23) rfl ?_ ?_
       · intro _
         intro a' w' hB hk hin KK hK
         refine wp_load_coreK _ rfl w.heap.size 0 _ (eval_tmp (by rw [hk 4 (by kernel_rfl)]; rfl)) (BX4.out _ hB).1 ?_
         exact hK _ _ hB (KeepsC.of_below (Below.refl _ _)) (fact_put (P := isCore x) rfl ⟨_, rfl, (BX4.out _ hB).2⟩)
       refine AllG.cons (k' := 24) rfl ?_ ?_
       · intro _
         intro a' w' hB hk hin KK hK
         refine wp_load_coreK _ rfl (w.heap.size + 1) 0 _ (eval_tmp (by rw [hk 5 (by kernel_rfl)]; rfl)) (BX5.out _ hB).1 ?_
         exact hK _ _ hB (KeepsC.of_below (Below.refl _ _)) (fact_put (P := isCore y) rfl ⟨_, rfl, (BX5.out _ hB).2⟩)
       refine AllG.cons (k' := 25) rfl ?_ ?_
       · intro _
         intro a' w' hB hk hin KK hK
         obtain ⟨v22, e22, q22⟩ := hin 22 _ 67 rfl rfl ⟨{ on := 22, ground := .data }, by simp, rfl, rfl⟩
         have q22 := fact_get (P := isCore x) rfl q22
         obtain ⟨zs22, r22, hat22⟩ := q22
         subst r22
         obtain ⟨v23, e23, q23⟩ := hin 23 _ 68 rfl rfl ⟨{ on := 23, ground := .data }, by simp, rfl, rfl⟩
         have q23 := fact_get (P := isCore y) rfl q23
         obtain ⟨zs23, r23, hat23⟩ := q23
         subst r23
         unfold Oper.wp execOp
         go_simp
         refine (K.alt_walk hat22 hat23).mono ?_
         rintro e wn ⟨zz, rfl, hat, hbn⟩
         exact hK _ _ (hB.trans (hbn.mono hB.size)) (KeepsC.of_below hbn) (fact_put (P := isCore (K.Cr.mk 4 0 0 [x, y])) rfl ⟨zz, rfl, hat⟩)
       refine AllG.cons (k' := 26) rfl ?_ ?_
       · intro _
         intro a' w' hB hk hin KK hK
         refine wp_load_valK _ rfl (w.heap.size + 3) 0 _ (eval_tmp (by rw [hk 7 (by kernel_rfl)]; rfl)) (BX7.out _ hB).1 ?_
         exact hK _ _ hB (KeepsC.of_below (Below.refl _ _)) (fact_put (P := isVal u) rfl ⟨_, rfl, (BX7.out _ hB).2⟩)
       refine AllG.cons (k' := 27) rfl ?_ ?_
       · intro _
         intro a' w' hB hk hin KK hK
         obtain ⟨v24, e24, q24⟩ := hin 25 _ 70 rfl rfl ⟨{ on := 25, ground := .data }, by simp, rfl, rfl⟩
         have q24 := fact_get (P := isVal u) rfl q24
         obtain ⟨zs24, r24, hat24⟩ := q24
         subst r24
         have ha24 := at_lit hat24
         obtain ⟨k24, z24, a24, len24, cap24, rfl⟩ := ha24
         have hv := fun cs hc => vals_lit w' [(u, [.int .i64 k24, .int .u8 z24, .slice a24 len24 cap24])] (by intro p hp; simp only [List.mem_cons, List.not_mem_nil, or_false] at hp; rcases hp with rfl <;> assumption) cs hc (by show 1 ≤ maxLen; decide)
         unfold Oper.wp execOp
         go_simp
         exact hK _ _ (hB.alloc hB.size _) (KeepsC.of_below ((Below.refl _ _).alloc (Nat.le_refl _) _)) (fact_put (P := isVals [u]) rfl (hv _ rfl))
       refine AllG.cons (k' := 28) rfl ?_ ?_
       · intro _
         intro a' w' hB hk hin KK hK
         obtain ⟨v25, e25, q25⟩ := hin 26 _ 71 rfl rfl ⟨{ on := 26, ground := .data }, by simp, rfl, rfl⟩
         have q25 := fact_get (P := isVals [u]) rfl q25
         have hl25 := q25
         obtain ⟨a25, cap25, r25, _⟩ := q25
         subst r25
         unfold Oper.wp execOp
         go_simp
         exact hK _ _ hB (KeepsC.of_below (Below.refl _ _)) (fact_put (P := isVal (Vl.mk 5 0 [u])) rfl ⟨[_, _, _], rfl, at_of_list hl25 rfl (by decide)⟩)
       refine AllG.cons (k' := 29) rfl ?_ ?_
       · intro _
         intro a' w' hB hk hin KK hK
         obtain ⟨v26, e26, q26⟩ := hin 24 _ 69 rfl rfl ⟨{ on := 24, ground := .data }, by simp, rfl, rfl⟩
         have q26 := fact_get (P := isCore (K.Cr.mk 4 0 0 [x, y])) rfl q26
         obtain ⟨zs26, r26, hat26⟩ := q26
         subst r26
         obtain ⟨v27, e27, q27⟩ := hin 27 _ 72 rfl rfl ⟨{ on := 27, ground := .data }, by simp, rfl, rfl⟩
         have q27 := fact_get (P := isVal (Vl.mk 5 0 [u])) rfl q27
         obtain ⟨zs27, r27, hat27⟩ := q27
         subst r27
         unfold Oper.wp execOp
         go_simp
         refine (good_eq (b := q) hat26 hat27 ((made_right B5 u).trans Hq.out)).mono ?_
         rintro e wn ⟨rfl, hbn⟩
         exact hK _ _ (hB.trans (hbn.mono hB.size)) (KeepsC.of_below hbn) (fact_put (P := isEq (.bool q)) rfl rfl)
       refine AllG.cons (k' := 30) rfl ?_ ?_
       · intro _
         intro a' w' hB hk hin KK hK
         have hkk : a'.tmps[10]? = some (.bool q) := (hk 10 (by kernel_rfl)).trans rfl
         have hev := eval_tmp hkk
         unfold Oper.wp execOp
         simp only [hev, Sem.run_pure]
         exact hK _ _ hB (KeepsC.of_below (Below.refl _ _)) (fact_put (P := isEq (.bool q)) rfl rfl)
       refine AllG.cons (k' := 31) rfl ?_ ?_
       · intro _
         intro a' w' hB hk hin KK hK
         obtain ⟨v28, e28, q28⟩ := hin 28 _ 73 rfl rfl ⟨{ on := 28, ground := .data }, by simp, rfl, rfl⟩
         have q28 := fact_get (P := isEq (.bool q)) rfl q28
         have q28' : v28 = .bool q := q28
         subst q28'
         obtain ⟨v29, e29, q29⟩ := hin 29 _ 74 rfl rfl ⟨{ on := 29, ground := .data }, by simp, rfl, rfl⟩
         have q29 := fact_get (P := isEq (.bool q)) rfl q29
         have q29' : v29 = .bool q := q29
         subst q29'
         unfold Oper.wp execOp
         go_simp
         exact hK _ _ hB (KeepsC.of_below (Below.refl _ _)) (fact_put (P := isEq (.bool true)) rfl (by show Value.bool _ = Value.bool _; simp))
       refine AllG.cons (k' := 32) rfl ?_ ?_
       · intro _
         intro a' w' hB hk hin KK hK
         obtain ⟨v30, e30, q30⟩ := hin 21 _ 66 rfl rfl ⟨{ on := 21, ground := .data }, by simp, rfl, rfl⟩
         have q30 := fact_get (P := isEq (.bool true)) rfl q30
         have q30' : v30 = .bool true := q30
         subst q30'
         obtain ⟨v31, e31, q31⟩ := hin 30 _ 75 rfl rfl ⟨{ on := 30, ground := .data }, by simp, rfl, rfl⟩
         have q31 := fact_get (P := isEq (.bool true)) rfl q31
         have q31' : v31 = .bool true := q31
         subst q31'
         unfold Oper.wp execOp
         go_simp
         exact hK _ _ hB (KeepsC.of_below (Below.refl _ _)) (fact_put (P := isEq (.bool true)) rfl rfl)
       refine AllG.cons (k' := 33) rfl ?_ ?_
       · intro _
         intro a' w' hB hk hin KK hK
         obtain ⟨v32, e32, q32⟩ := hin 31 _ 76 rfl rfl ⟨{ on := 31, ground := .data }, by simp, rfl, rfl⟩
         have q32 := fact_get (P := isEq (.bool true)) rfl q32
         have q32' : v32 = .bool true := q32
         subst q32'
         unfold Oper.wp execOp
         go_simp
         exact hK _ _ hB (KeepsC.of_below (Below.refl _ _)) (fact_put (P := isEq (.bool true)) rfl rfl)
       refine AllG.cons (k' := 34) rfl ?_ ?_
       · intro _
         intro a' w' hB hk hin KK hK
         refine wp_load_coreK _ rfl w.heap.size 0 _ (eval_tmp (by rw [hk 4 (by kernel_rfl)]; rfl)) (BX4.out _ hB).1 ?_
         exact hK _ _ hB (KeepsC.of_below (Below.refl _ _)) (fact_put (P := isCore x) rfl ⟨_, rfl, (BX4.out _ hB).2⟩)
       refine AllG.cons (k' := 35) rfl ?_ ?_
       · intro _
         intro a' w' hB hk hin KK hK
         obtain ⟨v33, e33, q33⟩ := hin 33 _ 78 rfl rfl ⟨{ on := 33, ground := .data }, by simp, rfl, rfl⟩
         have q33 := fact_get (P := isCore x) rfl q33
         obtain ⟨zs33, r33, hat33⟩ := q33
         subst r33
         unfold Oper.wp execOp
         go_simp
         refine (K.star_walk hat33).mono ?_
         rintro e wn ⟨zz, rfl, hat, hbn⟩
         exact hK _ _ (hB.trans (hbn.mono hB.size)) (KeepsC.of_below hbn) (fact_put (P := isCore (K.Cr.mk 5 0 0 [x])) rfl ⟨zz, rfl, hat⟩)
       refine AllG.cons (k' := 36) rfl ?_ ?_
       · intro _
         intro a' w' hB hk hin KK hK
         refine wp_load_valK _ rfl (w.heap.size + 2) 0 _ (eval_tmp (by rw [hk 6 (by kernel_rfl)]; rfl)) (BX6.out _ hB).1 ?_
         exact hK _ _ hB (KeepsC.of_below (Below.refl _ _)) (fact_put (P := isVal v) rfl ⟨_, rfl, (BX6.out _ hB).2⟩)
       refine AllG.cons (k' := 37) rfl ?_ ?_
       · intro _
         intro a' w' hB hk hin KK hK
         refine wp_load_valK _ rfl (w.heap.size + 2) 0 _ (eval_tmp (by rw [hk 6 (by kernel_rfl)]; rfl)) (BX6.out _ hB).1 ?_
         exact hK _ _ hB (KeepsC.of_below (Below.refl _ _)) (fact_put (P := isVal v) rfl ⟨_, rfl, (BX6.out _ hB).2⟩)
       refine AllG.cons (k' := 38) rfl ?_ ?_
       · intro _
         intro a' w' hB hk hin KK hK
         obtain ⟨v34, e34, q34⟩ := hin 35 _ 80 rfl rfl ⟨{ on := 35, ground := .data }, by simp, rfl, rfl⟩
         have q34 := fact_get (P := isVal v) rfl q34
         obtain ⟨zs34, r34, hat34⟩ := q34
         subst r34
         have ha34 := at_lit hat34
         obtain ⟨k34, z34, a34, len34, cap34, rfl⟩ := ha34
         obtain ⟨v35, e35, q35⟩ := hin 36 _ 81 rfl rfl ⟨{ on := 36, ground := .data }, by simp, rfl, rfl⟩
         have q35 := fact_get (P := isVal v) rfl q35
         obtain ⟨zs35, r35, hat35⟩ := q35
         subst r35
         have ha35 := at_lit hat35
         obtain ⟨k35, z35, a35, len35, cap35, rfl⟩ := ha35
         have hv := fun cs hc => vals_lit w' [(v, [.int .i64 k34, .int .u8 z34, .slice a34 len34 cap34]), (v, [.int .i64 k35, .int .u8 z35, .slice a35 len35 cap35])] (by intro p hp; simp only [List.mem_cons, List.not_mem_nil, or_false] at hp; rcases hp with rfl | rfl <;> assumption) cs hc (by show 2 ≤ maxLen; decide)
         unfold Oper.wp execOp
         go_simp
         exact hK _ _ (hB.alloc hB.size _) (KeepsC.of_below ((Below.refl _ _).alloc (Nat.le_refl _) _)) (fact_put (P := isVals [v, v]) rfl (hv _ rfl))
       refine AllG.cons (k' := 39) rfl ?_ ?_
       · intro _
         intro a' w' hB hk hin KK hK
         obtain ⟨v36, e36, q36⟩ := hin 37 _ 82 rfl rfl ⟨{ on := 37, ground := .data }, by simp, rfl, rfl⟩
         have q36 := fact_get (P := isVals [v, v]) rfl q36
         have hl36 := q36
         obtain ⟨a36, cap36, r36, _⟩ := q36
         subst r36
         unfold Oper.wp execOp
         go_simp
         exact hK _ _ hB (KeepsC.of_below (Below.refl _ _)) (fact_put (P := isVal (Vl.mk 6 0 [v, v])) rfl ⟨[_, _, _], rfl, at_of_list hl36 rfl (by decide)⟩)
       refine AllG.cons (k' := 40) rfl ?_ ?_
       · intro _
         intro a' w' hB hk hin KK hK
         obtain ⟨v37, e37, q37⟩ := hin 34 _ 79 rfl rfl ⟨{ on := 34, ground := .data }, by simp, rfl, rfl⟩
         have q37 := fact_get (P := isCore (K.Cr.mk 5 0 0 [x])) rfl q37
         obtain ⟨zs37, r37, hat37⟩ := q37
         subst r37
         obtain ⟨v38, e38, q38⟩ := hin 38 _ 83 rfl rfl ⟨{ on := 38, ground := .data }, by simp, rfl, rfl⟩
         have q38 := fact_get (P := isVal (Vl.mk 6 0 [v, v])) rfl q38
         obtain ⟨zs38, r38, hat38⟩ := q38
         subst r38
         unfold Oper.wp execOp
         go_simp
         refine (good_eq (b := false) hat37 hat38 ((made_star B5 v).trans Hp.out)).mono ?_
         rintro e wn ⟨rfl, hbn⟩
         exact hK _ _ (hB.trans (hbn.mono hB.size)) (KeepsC.of_below hbn) (fact_put (P := isEq (.bool false)) rfl rfl)
       refine AllG.cons (k' := 41) rfl ?_ ?_
       · intro _
         intro a' w' hB hk hin KK hK
         have hkk : a'.tmps[9]? = some (.bool false) := (hk 9 (by kernel_rfl)).trans rfl
         have hev := eval_tmp hkk
         unfold Oper.wp execOp
         simp only [hev, Sem.run_pure]
         exact hK _ _ hB (KeepsC.of_below (Below.refl _ _)) (fact_put (P := isEq (.bool false)) rfl rfl)
       refine AllG.cons (k' := 42) rfl ?_ ?_
       · intro _
         intro a' w' hB hk hin KK hK
         obtain ⟨v39, e39, q39⟩ := hin 39 _ 84 rfl rfl ⟨{ on := 39, ground := .data }, by simp, rfl, rfl⟩
         have q39 := fact_get (P := isEq (.bool false)) rfl q39
         have q39' : v39 = .bool false := q39
         subst q39'
         obtain ⟨v40, e40, q40⟩ := hin 40 _ 85 rfl rfl ⟨{ on := 40, ground := .data }, by simp, rfl, rfl⟩
         have q40 := fact_get (P := isEq (.bool false)) rfl q40
         have q40' : v40 = .bool false := q40
         subst q40'
         unfold Oper.wp execOp
         go_simp
         exact hK _ _ hB (KeepsC.of_below (Below.refl _ _)) (fact_put (P := isEq (.bool true)) rfl (by show Value.bool _ = Value.bool _; simp))
       refine AllG.cons (k' := 43) rfl ?_ ?_
       · intro _
         intro a' w' hB hk hin KK hK
         obtain ⟨v41, e41, q41⟩ := hin 32 _ 77 rfl rfl ⟨{ on := 32, ground := .data }, by simp, rfl, rfl⟩
         have q41 := fact_get (P := isEq (.bool true)) rfl q41
         have q41' : v41 = .bool true := q41
         subst q41'
         obtain ⟨v42, e42, q42⟩ := hin 41 _ 86 rfl rfl ⟨{ on := 41, ground := .data }, by simp, rfl, rfl⟩
         have q42 := fact_get (P := isEq (.bool true)) rfl q42
         have q42' : v42 = .bool true := q42
         subst q42'
         unfold Oper.wp execOp
         go_simp
         exact hK _ _ hB (KeepsC.of_below (Below.refl _ _)) (fact_put (P := isEq (.bool true)) rfl rfl)
       refine AllG.cons (k' := 44) rfl ?_ ?_
       · intro _
         intro a' w' hB hk hin KK hK
         obtain ⟨v43, e43, q43⟩ := hin 42 _ 87 rfl rfl ⟨{ on := 42, ground := .data }, by simp, rfl, rfl⟩
         have q43 := fact_get (P := isEq (.bool true)) rfl q43
         have q43' : v43 = .bool true := q43
         subst q43'
         unfold Oper.wp execOp
         go_simp
         exact hK _ _ hB (KeepsC.of_below (Below.refl _ _)) (fact_put (P := isEq (.bool true)) rfl rfl)
       refine AllG.cons (k' := 45) rfl ?_ ?_
       · intro _
         intro a' w' hB hk hin KK hK
         refine wp_load_coreK _ rfl w.heap.size 0 _ (eval_tmp (by rw [hk 4 (by kernel_rfl)]; rfl)) (BX4.out _ hB).1 ?_
         exact hK _ _ hB (KeepsC.of_below (Below.refl _ _)) (fact_put (P := isCore x) rfl ⟨_, rfl, (BX4.out _ hB).2⟩)
       refine AllG.cons (k' := 46) rfl ?_ ?_
       · intro _
         intro a' w' hB hk hin KK hK
         obtain ⟨v44, e44, q44⟩ := hin 44 _ 89 rfl rfl ⟨{ on := 44, ground := .data }, by simp, rfl, rfl⟩
         have q44 := fact_get (P := isCore x) rfl q44
         obtain ⟨zs44, r44, hat44⟩ := q44
         subst r44
         unfold Oper.wp execOp
         go_simp
         refine (K.grp_walk 1 rfl hat44).mono ?_
         rintro e wn ⟨zz, rfl, hat, hbn⟩
         exact hK _ _ (hB.trans (hbn.mono hB.size)) (KeepsC.of_below hbn) (fact_put (P := isCore (K.Cr.mk 6 0 1 [x])) rfl ⟨zz, rfl, hat⟩)
       refine AllG.cons (k' := 47) rfl ?_ ?_
       · intro _
         intro a' w' hB hk hin KK hK
         refine wp_load_valK _ rfl (w.heap.size + 2) 0 _ (eval_tmp (by rw [hk 6 (by kernel_rfl)]; rfl)) (BX6.out _ hB).1 ?_
         exact hK _ _ hB (KeepsC.of_below (Below.refl _ _)) (fact_put (P := isVal v) rfl ⟨_, rfl, (BX6.out _ hB).2⟩)
       refine AllG.cons (k' := 48) rfl ?_ ?_
       · intro _
         intro a' w' hB hk hin KK hK
         obtain ⟨v45, e45, q45⟩ := hin 46 _ 91 rfl rfl ⟨{ on := 46, ground := .data }, by simp, rfl, rfl⟩
         have q45 := fact_get (P := isVal v) rfl q45
         obtain ⟨zs45, r45, hat45⟩ := q45
         subst r45
         have ha45 := at_lit hat45
         obtain ⟨k45, z45, a45, len45, cap45, rfl⟩ := ha45
         have hv := fun cs hc => vals_lit w' [(v, [.int .i64 k45, .int .u8 z45, .slice a45 len45 cap45])] (by intro p hp; simp only [List.mem_cons, List.not_mem_nil, or_false] at hp; rcases hp with rfl <;> assumption) cs hc (by show 1 ≤ maxLen; decide)
         unfold Oper.wp execOp
         go_simp
         exact hK _ _ (hB.alloc hB.size _) (KeepsC.of_below ((Below.refl _ _).alloc (Nat.le_refl _) _)) (fact_put (P := isVals [v]) rfl (hv _ rfl))
       refine AllG.cons (k' := 49) rfl ?_ ?_
       · intro _
         intro a' w' hB hk hin KK hK
         obtain ⟨v46, e46, q46⟩ := hin 47 _ 92 rfl rfl ⟨{ on := 47, ground := .data }, by simp, rfl, rfl⟩
         have q46 := fact_get (P := isVals [v]) rfl q46
         have hl46 := q46
         obtain ⟨a46, cap46, r46, _⟩ := q46
         subst r46
         unfold Oper.wp execOp
         go_simp
         exact hK _ _ hB (KeepsC.of_below (Below.refl _ _)) (fact_put (P := isVal (Vl.mk 7 0 [v])) rfl ⟨[_, _, _], rfl, at_of_list hl46 rfl (by decide)⟩)
       refine AllG.cons (k' := 50) rfl ?_ ?_
       · intro _
         intro a' w' hB hk hin KK hK
         obtain ⟨v47, e47, q47⟩ := hin 45 _ 90 rfl rfl ⟨{ on := 45, ground := .data }, by simp, rfl, rfl⟩
         have q47 := fact_get (P := isCore (K.Cr.mk 6 0 1 [x])) rfl q47
         obtain ⟨zs47, r47, hat47⟩ := q47
         subst r47
         obtain ⟨v48, e48, q48⟩ := hin 48 _ 93 rfl rfl ⟨{ on := 48, ground := .data }, by simp, rfl, rfl⟩
         have q48 := fact_get (P := isVal (Vl.mk 7 0 [v])) rfl q48
         obtain ⟨zs48, r48, hat48⟩ := q48
         subst r48
         unfold Oper.wp execOp
         go_simp
         refine (good_eq (b := false) hat47 hat48 ((made_grp B5 v).trans Hp.out)).mono ?_
         rintro e wn ⟨rfl, hbn⟩
         exact hK _ _ (hB.trans (hbn.mono hB.size)) (KeepsC.of_below hbn) (fact_put (P := isEq (.bool false)) rfl rfl)
       refine AllG.cons (k' := 51) rfl ?_ ?_
       · intro _
         intro a' w' hB hk hin KK hK
         have hkk : a'.tmps[9]? = some (.bool false) := (hk 9 (by kernel_rfl)).trans rfl
         have hev := eval_tmp hkk
         unfold Oper.wp execOp
         simp only [hev, Sem.run_pure]
         exact hK _ _ hB (KeepsC.of_below (Below.refl _ _)) (fact_put (P := isEq (.bool false)) rfl rfl)
       refine AllG.cons (k' := 52) rfl ?_ ?_
       · intro _
         intro a' w' hB hk hin KK hK
         obtain ⟨v49, e49, q49⟩ := hin 49 _ 94 rfl rfl ⟨{ on := 49, ground := .data }, by simp, rfl, rfl⟩
         have q49 := fact_get (P := isEq (.bool false)) rfl q49
         have q49' : v49 = .bool false := q49
         subst q49'
         obtain ⟨v50, e50, q50⟩ := hin 50 _ 95 rfl rfl ⟨{ on := 50, ground := .data }, by simp, rfl, rfl⟩
         have q50 := fact_get (P := isEq (.bool false)) rfl q50
         have q50' : v50 = .bool false := q50
         subst q50'
         unfold Oper.wp execOp
         go_simp
         exact hK _ _ hB (KeepsC.of_below (Below.refl _ _)) (fact_put (P := isEq (.bool true)) rfl (by show Value.bool _ = Value.bool _; simp))
       refine AllG.cons (k' := 53) rfl ?_ ?_
       · intro _
         intro a' w' hB hk hin KK hK
         obtain ⟨v51, e51, q51⟩ := hin 43 _ 88 rfl rfl ⟨{ on := 43, ground := .data }, by simp, rfl, rfl⟩
         have q51 := fact_get (P := isEq (.bool true)) rfl q51
         have q51' : v51 = .bool true := q51
         subst q51'
         obtain ⟨v52, e52, q52⟩ := hin 51 _ 96 rfl rfl ⟨{ on := 51, ground := .data }, by simp, rfl, rfl⟩
         have q52 := fact_get (P := isEq (.bool true)) rfl q52
         have q52' : v52 = .bool true := q52
         subst q52'
         unfold Oper.wp execOp
         go_simp
         exact hK _ _ hB (KeepsC.of_below (Below.refl _ _)) (fact_put (P := isEq (.bool true)) rfl rfl)
       refine AllG.cons (k' := 54) rfl ?_ ?_
       · intro _
         intro a' w' hB hk hin KK hK
         obtain ⟨v53, e53, q53⟩ := hin 52 _ 97 rfl rfl ⟨{ on := 52, ground := .data }, by simp, rfl, rfl⟩
         have q53 := fact_get (P := isEq (.bool true)) rfl q53
         have q53' : v53 = .bool true := q53
         subst q53'
         unfold Oper.wp execOp
         go_simp
         exact hK _ _ hB (KeepsC.of_below (Below.refl _ _)) (fact_put (P := isEq (.bool true)) rfl rfl)
       refine AllG.cons (k' := 55) rfl ?_ ?_
       · intro _
         intro a' w' hB hk hin KK hK
         refine wp_load_coreK _ rfl w.heap.size 0 _ (eval_tmp (by rw [hk 4 (by kernel_rfl)]; rfl)) (BX4.out _ hB).1 ?_
         exact hK _ _ hB (KeepsC.of_below (Below.refl _ _)) (fact_put (P := isCore x) rfl ⟨_, rfl, (BX4.out _ hB).2⟩)
       refine AllG.cons (k' := 56) rfl ?_ ?_
       · intro _
         intro a' w' hB hk hin KK hK
         obtain ⟨v54, e54, q54⟩ := hin 54 _ 99 rfl rfl ⟨{ on := 54, ground := .data }, by simp, rfl, rfl⟩
         have q54 := fact_get (P := isCore x) rfl q54
         obtain ⟨zs54, r54, hat54⟩ := q54
         subst r54
         unfold Oper.wp execOp
         go_simp
         refine (K.anew_walk hat54).mono ?_
         rintro e wn ⟨zz, rfl, hat, hbn⟩
         exact hK _ _ (hB.trans (hbn.mono hB.size)) (KeepsC.of_below hbn) (fact_put (P := isCore (K.Cr.mk 7 0 0 [x])) rfl ⟨zz, rfl, hat⟩)
       refine AllG.cons (k' := 57) rfl ?_ ?_
       · intro _
         intro a' w' hB hk hin KK hK
         refine wp_load_valK _ rfl (w.heap.size + 2) 0 _ (eval_tmp (by rw [hk 6 (by kernel_rfl)]; rfl)) (BX6.out _ hB).1 ?_
         exact hK _ _ hB (KeepsC.of_below (Below.refl _ _)) (fact_put (P := isVal v) rfl ⟨_, rfl, (BX6.out _ hB).2⟩)
       refine AllG.cons (k' := 58) rfl ?_ ?_
       · intro _
         intro a' w' hB hk hin KK hK
         obtain ⟨v55, e55, q55⟩ := hin 55 _ 100 rfl rfl ⟨{ on := 55, ground := .data }, by simp, rfl, rfl⟩
         have q55 := fact_get (P := isCore (K.Cr.mk 7 0 0 [x])) rfl q55
         obtain ⟨zs55, r55, hat55⟩ := q55
         subst r55
         obtain ⟨v56, e56, q56⟩ := hin 56 _ 101 rfl rfl ⟨{ on := 56, ground := .data }, by simp, rfl, rfl⟩
         have q56 := fact_get (P := isVal v) rfl q56
         obtain ⟨zs56, r56, hat56⟩ := q56
         subst r56
         unfold Oper.wp execOp
         go_simp
         refine (good_eq (b := false) hat55 hat56 ((made_anew B5 v).trans Hp.out)).mono ?_
         rintro e wn ⟨rfl, hbn⟩
         exact hK _ _ (hB.trans (hbn.mono hB.size)) (KeepsC.of_below hbn) (fact_put (P := isEq (.bool false)) rfl rfl)
       refine AllG.cons (k' := 59) rfl ?_ ?_
       · intro _
         intro a' w' hB hk hin KK hK
         have hkk : a'.tmps[9]? = some (.bool false) := (hk 9 (by kernel_rfl)).trans rfl
         have hev := eval_tmp hkk
         unfold Oper.wp execOp
         simp only [hev, Sem.run_pure]
         exact hK _ _ hB (KeepsC.of_below (Below.refl _ _)) (fact_put (P := isEq (.bool false)) rfl rfl)
       refine AllG.cons (k' := 60) rfl ?_ ?_
       · intro _
         intro a' w' hB hk hin KK hK
         obtain ⟨v57, e57, q57⟩ := hin 57 _ 102 rfl rfl ⟨{ on := 57, ground := .data }, by simp, rfl, rfl⟩
         have q57 := fact_get (P := isEq (.bool false)) rfl q57
         have q57' : v57 = .bool false := q57
         subst q57'
         obtain ⟨v58, e58, q58⟩ := hin 58 _ 103 rfl rfl ⟨{ on := 58, ground := .data }, by simp, rfl, rfl⟩
         have q58 := fact_get (P := isEq (.bool false)) rfl q58
         have q58' : v58 = .bool false := q58
         subst q58'
         unfold Oper.wp execOp
         go_simp
         exact hK _ _ hB (KeepsC.of_below (Below.refl _ _)) (fact_put (P := isEq (.bool true)) rfl (by show Value.bool _ = Value.bool _; simp))
       refine AllG.cons (k' := 61) rfl ?_ ?_
       · intro _
         intro a' w' hB hk hin KK hK
         obtain ⟨v59, e59, q59⟩ := hin 53 _ 98 rfl rfl ⟨{ on := 53, ground := .data }, by simp, rfl, rfl⟩
         have q59 := fact_get (P := isEq (.bool true)) rfl q59
         have q59' : v59 = .bool true := q59
         subst q59'
         obtain ⟨v60, e60, q60⟩ := hin 59 _ 104 rfl rfl ⟨{ on := 59, ground := .data }, by simp, rfl, rfl⟩
         have q60 := fact_get (P := isEq (.bool true)) rfl q60
         have q60' : v60 = .bool true := q60
         subst q60'
         unfold Oper.wp execOp
         go_simp
         exact hK _ _ hB (KeepsC.of_below (Below.refl _ _)) (fact_put (P := isEq (.bool true)) rfl rfl)
       refine AllG.cons (k' := 62) rfl ?_ ?_
       · intro _
         intro a' w' hB hk hin KK hK
         obtain ⟨v61, e61, q61⟩ := hin 60 _ 105 rfl rfl ⟨{ on := 60, ground := .data }, by simp, rfl, rfl⟩
         have q61 := fact_get (P := isEq (.bool true)) rfl q61
         have q61' : v61 = .bool true := q61
         subst q61'
         unfold Oper.wp execOp
         go_simp
         exact hK _ _ hB (KeepsC.of_below (Below.refl _ _)) (fact_put (P := isEq (.bool true)) rfl rfl)
       refine AllG.cons (k' := 63) rfl ?_ ?_
       · intro _
         intro a' w' hB hk hin KK hK
         refine wp_load_valK _ rfl b11 0 _ (eval_tmp (by rw [hk 11 (by kernel_rfl)]; rfl)) (BX11.out _ hB).1 ?_
         exact hK _ _ hB (KeepsC.of_below (Below.refl _ _)) (fact_put (P := isVal (Vl.mk 3 0 [v, u])) rfl ⟨_, rfl, (BX11.out _ hB).2⟩)
       refine AllG.cons (k' := 64) rfl ?_ ?_
       · intro _
         intro a' w' hB hk hin KK hK
         obtain ⟨v62, e62, q62⟩ := hin 62 _ 107 rfl rfl ⟨{ on := 62, ground := .data }, by simp, rfl, rfl⟩
         have q62 := fact_get (P := isVal (Vl.mk 3 0 [v, u])) rfl q62
         obtain ⟨zs62, r62, hat62⟩ := q62
         subst r62
         unfold Oper.wp execOp
         go_simp
         refine (len_eq (n := wrap64 (v.meas.1 + u.meas.1)) hat62 (meas_row v u)).mono ?_
         rintro e wn ⟨rfl, hbn⟩
         exact hK _ _ (hB.trans (hbn.mono hB.size)) (KeepsC.of_below hbn) (fact_put (P := isEq (.int .i64 (wrap64 (v.meas.1 + u.meas.1)))) rfl rfl)
       refine AllG.cons (k' := 65) rfl ?_ ?_
       · intro _
         intro a' w' hB hk hin KK hK
         refine wp_load_valK _ rfl (w.heap.size + 2) 0 _ (eval_tmp (by rw [hk 6 (by kernel_rfl)]; rfl)) (BX6.out _ hB).1 ?_
         exact hK _ _ hB (KeepsC.of_below (Below.refl _ _)) (fact_put (P := isVal v) rfl ⟨_, rfl, (BX6.out _ hB).2⟩)
       refine AllG.cons (k' := 66) rfl ?_ ?_
       · intro _
         intro a' w' hB hk hin KK hK
         obtain ⟨v63, e63, q63⟩ := hin 64 _ 109 rfl rfl ⟨{ on := 64, ground := .data }, by simp, rfl, rfl⟩
         have q63 := fact_get (P := isVal v) rfl q63
         obtain ⟨zs63, r63, hat63⟩ := q63
         subst r63
         unfold Oper.wp execOp
         go_simp
         refine (len_eq (n := v.meas.1) hat63 rfl).mono ?_
         rintro e wn ⟨rfl, hbn⟩
         exact hK _ _ (hB.trans (hbn.mono hB.size)) (KeepsC.of_below hbn) (fact_put (P := isEq (.int .i64 (v.meas.1))) rfl rfl)
       refine AllG.cons (k' := 67) rfl ?_ ?_
       · intro _
         intro a' w' hB hk hin KK hK
         refine wp_load_valK _ rfl (w.heap.size + 3) 0 _ (eval_tmp (by rw [hk 7 (by kernel_rfl)]; rfl)) (BX7.out _ hB).1 ?_
         exact hK _ _ hB (KeepsC.of_below (Below.refl _ _)) (fact_put (P := isVal u) rfl ⟨_, rfl, (BX7.out _ hB).2⟩)
       refine AllG.cons (k' := 68) rfl ?_ ?_
       · intro _
         intro a' w' hB hk hin KK hK
         obtain ⟨v64, e64, q64⟩ := hin 66 _ 111 rfl rfl ⟨{ on := 66, ground := .data }, by simp, rfl, rfl⟩
         have q64 := fact_get (P := isVal u) rfl q64
         obtain ⟨zs64, r64, hat64⟩ := q64
         subst r64
         unfold Oper.wp execOp
         go_simp
         refine (len_eq (n := u.meas.1) hat64 rfl).mono ?_
         rintro e wn ⟨rfl, hbn⟩
         exact hK _ _ (hB.trans (hbn.mono hB.size)) (KeepsC.of_below hbn) (fact_put (P := isEq (.int .i64 (u.meas.1))) rfl rfl)
       refine AllG.cons (k' := 69) rfl ?_ ?_
       · intro _
         intro a' w' hB hk hin KK hK
         obtain ⟨v65, e65, q65⟩ := hin 65 _ 110 rfl rfl ⟨{ on := 65, ground := .data }, by simp, rfl, rfl⟩
         have q65 := fact_get (P := isEq (.int .i64 (v.meas.1))) rfl q65
         have q65' : v65 = .int .i64 (v.meas.1) := q65
         subst q65'
         obtain ⟨v66, e66, q66⟩ := hin 67 _ 112 rfl rfl ⟨{ on := 67, ground := .data }, by simp, rfl, rfl⟩
         have q66 := fact_get (P := isEq (.int .i64 (u.meas.1))) rfl q66
         have q66' : v66 = .int .i64 (u.meas.1) := q66
         subst q66'
         unfold Oper.wp execOp
         go_simp
         exact hK _ _ hB (KeepsC.of_below (Below.refl _ _)) (fact_put (P := isEq (.int .i64 (wrap64 (v.meas.1 + u.meas.1)))) rfl (congrArg (Value.int .i64) (IntWalk.i64_left _)))
       refine AllG.cons (k' := 70) rfl ?_ ?_
       · intro _
         intro a' w' hB hk hin KK hK
         obtain ⟨v67, e67, q67⟩ := hin 63 _ 108 rfl rfl ⟨{ on := 63, ground := .data }, by simp, rfl, rfl⟩
         have q67 := fact_get (P := isEq (.int .i64 (wrap64 (v.meas.1 + u.meas.1)))) rfl q67
         have q67' : v67 = .int .i64 (wrap64 (v.meas.1 + u.meas.1)) := q67
         subst q67'
         obtain ⟨v68, e68, q68⟩ := hin 68 _ 113 rfl rfl ⟨{ on := 68, ground := .data }, by simp, rfl, rfl⟩
         have q68 := fact_get (P := isEq (.int .i64 (wrap64 (v.meas.1 + u.meas.1)))) rfl q68
         have q68' : v68 = .int .i64 (wrap64 (v.meas.1 + u.meas.1)) := q68
         subst q68'
         unfold Oper.wp execOp
         go_simp
         exact hK _ _ hB (KeepsC.of_below (Below.refl _ _)) (fact_put (P := isEq (.bool true)) rfl (by show Value.bool _ = Value.bool _; simp))
       refine AllG.cons (k' := 71) rfl ?_ ?_
       · intro _
         intro a' w' hB hk hin KK hK
         obtain ⟨v69, e69, q69⟩ := hin 61 _ 106 rfl rfl ⟨{ on := 61, ground := .data }, by simp, rfl, rfl⟩
         have q69 := fact_get (P := isEq (.bool true)) rfl q69
         have q69' : v69 = .bool true := q69
         subst q69'
         obtain ⟨v70, e70, q70⟩ := hin 69 _ 114 rfl rfl ⟨{ on := 69, ground := .data }, by simp, rfl, rfl⟩
         have q70 := fact_get (P := isEq (.bool true)) rfl q70
         have q70' : v70 = .bool true := q70
         subst q70'
         unfold Oper.wp execOp
         go_simp
         exact hK _ _ hB (KeepsC.of_below (Below.refl _ _)) (fact_put (P := isEq (.bool true)) rfl rfl)
       refine AllG.cons (k' := 72) rfl ?_ ?_
       · intro _
         intro a' w' hB hk hin KK hK
         obtain ⟨v71, e71, q71⟩ := hin 70 _ 115 rfl rfl ⟨{ on := 70, ground := .data }, by simp, rfl, rfl⟩
         have q71 := fact_get (P := isEq (.bool true)) rfl q71
         have q71' : v71 = .bool true := q71
         subst q71'
         unfold Oper.wp execOp
         go_simp
         exact hK _ _ hB (KeepsC.of_below (Below.refl _ _)) (fact_put (P := isEq (.bool true)) rfl rfl)
       exact AllG.nil
     case hend =>
      intro a' w' hB hdef hsz hk hvals
      obtain ⟨v8', hv8', hvt8⟩ := hvals 71 _ 8 rfl rfl
      have hvt8' := fact_get (P := isEq (.bool true)) rfl hvt8
      have hvt28 : v8' = .bool true := hvt8'
      subst hvt28
      have hf8 : a'.tmps.getD 8 undef = .bool true := by rw [Array.getD_eq_getD_getElem?, hv8']; rfl
      have heq := act_eq hdef hsz hk
      refine hMet a' w' (Met.intro (hR a' w' ?_))
      refine ⟨a'.tmps.getD 8 undef, a'.tmps.getD 45 undef, a'.tmps.getD 46 undef, a'.tmps.getD 47 undef, a'.tmps.getD 48 undef, a'.tmps.getD 49 undef, a'.tmps.getD 50 undef, a'.tmps.getD 51 undef, a'.tmps.getD 52 undef, a'.tmps.getD 53 undef, a'.tmps.getD 54 undef, a'.tmps.getD 55 undef, a'.tmps.getD 56 undef, a'.tmps.getD 57 undef, a'.tmps.getD 58 undef, a'.tmps.getD 59 undef, a'.tmps.getD 60 undef, a'.tmps.getD 61 undef, a'.tmps.getD 62 undef, a'.tmps.getD 63 undef, a'.tmps.getD 64 undef, a'.tmps.getD 65 undef, a'.tmps.getD 66 undef, a'.tmps.getD 67 undef, a'.tmps.getD 68 undef, a'.tmps.getD 69 undef, a'.tmps.getD 70 undef, a'.tmps.getD 71 undef, a'.tmps.getD 72 undef, a'.tmps.getD 73 undef, a'.tmps.getD 74 undef, a'.tmps.getD 75 undef, a'.tmps.getD 76 undef, a'.tmps.getD 77 undef, a'.tmps.getD 78 undef, a'.tmps.getD 79 undef, a'.tmps.getD 80 undef, a'.tmps.getD 81 undef, a'.tmps.getD 82 undef, a'.tmps.getD 83 undef, a'.tmps.getD 84 undef, a'.tmps.getD 85 undef, a'.tmps.getD 86 undef, a'.tmps.getD 87 undef, a'.tmps.getD 88 undef, a'.tmps.getD 89 undef, a'.tmps.getD 90 undef, a'.tmps.getD 91 undef, a'.tmps.getD 92 undef, a'.tmps.getD 93 undef, a'.tmps.getD 94 undef, a'.tmps.getD 95 undef, a'.tmps.getD 96 undef, a'.tmps.getD 97 undef, a'.tmps.getD 98 undef, a'.tmps.getD 99 undef, a'.tmps.getD 100 undef, a'.tmps.getD 101 undef, a'.tmps.getD 102 undef, a'.tmps.getD 103 undef, a'.tmps.getD 104 undef, a'.tmps.getD 105 undef, a'.tmps.getD 106 undef, a'.tmps.getD 107 undef, a'.tmps.getD 108 undef, a'.tmps.getD 109 undef, a'.tmps.getD 110 undef, a'.tmps.getD 111 undef, a'.tmps.getD 112 undef, a'.tmps.getD 113 undef, a'.tmps.getD 114 undef, a'.tmps.getD 115 undef, ⟨hf8, hB⟩, heq.trans ?_⟩
      kernel_rfl
    case rest =>
     obtain ⟨rfl, hBc⟩ := hcut
     have Hfin := Lib.hid (HB9.out.trans (hBc.mono HB9.out.size))
     clear hBc
     go_wp2_with fail
     go_ret
     exact ⟨rfl, Hfin.out⟩
   | true =>
    go_cut [8] from 45 to 115 (fun v wx => v = .bool true ∧ Below W9.heap.size W9 wx)
    case first =>
     rename_i J K' hR hMet
     refine wp_region_guards2 (factAt (vm7t W9.heap.size x y v u q)) (W0 := W9) (by kernel_rfl) (by kernel_rfl) (by kernel_rfl) (Below.refl _ _) (fun i v w w' h hk => factAt_stable (vm7t_stable _ _ _ _ _ _) i v w w' h hk) [(6, true), (10, true), (21, true), (32, true), (43, true), (53, true), (61, true)] (by kernel_rfl) ?hgu ?hskip ?hop ?hend
     case hgu =>
       intro j hj v w h
       simp only [List.mem_cons, List.not_mem_nil, or_false] at hj
       rcases hj with rfl | rfl | rfl | rfl | rfl | rfl | rfl
       · exact fact_get (P := isEq (.bool true)) rfl h
       · exact fact_get (P := isEq (.bool true)) rfl h
       · exact fact_get (P := isEq (.bool true)) rfl h
       · exact fact_get (P := isEq (.bool true)) rfl h
       · exact fact_get (P := isEq (.bool true)) rfl h
       · exact fact_get (P := isEq (.bool true)) rfl h
       · exact fact_get (P := isEq (.bool true)) rfl h
     case hskip =>
       refine AllG.get0 ?_
       refine AllG.cons (k' := 1) rfl (fun h => by have h' : true = false := h; cases h') ?_
       refine AllG.cons (k' := 2) rfl (fun h => by have h' : true = false := h; cases h') ?_
       refine AllG.cons (k' := 3) rfl (fun h => by have h' : true = false := h; cases h') ?_
       refine AllG.cons (k' := 4) rfl (fun h => by have h' : true = false := h; cases h') ?_
       refine AllG.cons (k' := 5) rfl (fun h => by have h' : true = false := h; cases h') ?_
       refine AllG.cons (k' := 6) rfl (fun h => by have h' : true = false := h; cases h') ?_
       refine AllG.cons (k' := 7) rfl (fun h => by have h' : true = false := h; cases h') ?_
       refine AllG.cons (k' := 8) rfl (fun h => by have h' : true = false := h; cases h') ?_
       refine AllG.cons (k' := 9) rfl (fun h => by have h' : true = false := h; cases h') ?_
       refine AllG.cons (k' := 10) rfl (fun h => by have h' : true = false := h; cases h') ?_
       refine AllG.cons (k' := 11) rfl (fun h => by have h' : true = false := h; cases h') ?_
       refine AllG.cons (k' := 12) rfl (fun h => by have h' : true = false := h; cases h') ?_
       refine AllG.cons (k' := 13) rfl (fun h => by have h' : true = false := h; cases h') ?_
       refine AllG.cons (k' := 14) rfl (fun h => by have h' : true = false := h; cases h') ?_
       refine AllG.cons (k' := 15) rfl (fun h => by have h' : true = false := h; cases h') ?_
       refine AllG.cons (k' := 16) rfl (fun h => by have h' : true = false := h; cases h') ?_
       refine AllG.cons (k' := 17) rfl (fun h => by have h' : true = false := h; cases h') ?_
       refine AllG.cons (k' := 18) rfl (fun h => by have h' : true = false := h; cases h') ?_
       refine AllG.cons (k' := 19) rfl (fun h => by have h' : true = false := h; cases h') ?_
       refine AllG.cons (k' := 20) rfl (fun h => by have h' : true = false := h; cases h') ?_
       refine AllG.cons (k' := 21) rfl (fun h => by have h' : true = false := h; cases h') ?_
       refine AllG.cons (k' := 22) rfl (fun h => by have h' : true = false := h; cases h') ?_
       refine AllG.cons (k' := 23) rfl (fun h => by have h' : true = false := h; cases h') ?_
       refine AllG.cons (k' := 24) rfl (fun h => by have h' : true = false := h; cases h') ?_
       refine AllG.cons (k' := 25) rfl (fun h => by have h' : true = false := h; cases h') ?_
       refine AllG.cons (k' := 26) rfl (fun h => by have h' : true = false := h; cases h') ?_
       refine AllG.cons (k' := 27) rfl (fun h => by have h' : true = false := h; cases h') ?_
       refine AllG.cons (k' := 28) rfl (fun h => by have h' : true = false := h; cases h') ?_
       refine AllG.cons (k' := 29) rfl (fun h => by have h' : true = false := h; cases h') ?_
       refine AllG.cons (k' := 30) rfl (fun h => by have h' : true = false := h; cases h') ?_
       refine AllG.cons (k' := 31) rfl (fun h => by have h' : true = false := h; cases h') ?_
       refine AllG.cons (k' := 32) rfl (fun h => by have h' : true = false := h; cases h') ?_
       refine AllG.cons (k' := 33) rfl (fun h => by have h' : true = false := h; cases h') ?_
       refine AllG.cons (k' := 34) rfl (fun h => by have h' : true = false := h; cases h') ?_
       refine AllG.cons (k' := 35) rfl (fun h => by have h' : true = false := h; cases h') ?_
       refine AllG.cons (k' := 36) rfl (fun h => by have h' : true = false := h; cases h') ?_
       refine AllG.cons (k' := 37) rfl (fun h => by have h' : true = false := h; cases h') ?_
       refine AllG.cons (k' := 38) rfl (fun h => by have h' : true = false := h; cases h') ?_
       refine AllG.cons (k' := 39) rfl (fun h => by have h' : true = false := h; cases h') ?_
       refine AllG.cons (k' := 40) rfl (fun h => by have h' : true = false := h; cases h') ?_
       refine AllG.cons (k' := 41) rfl (fun h => by have h' : true = false := h; cases h') ?_
       refine AllG.cons (k' := 42) rfl (fun h => by have h' : true = false := h; cases h') ?_
       refine AllG.cons (k' := 43) rfl (fun h => by have h' : true = false := h; cases h') ?_
       refine AllG.cons (k' := 44) rfl (fun h => by have h' : true = false := h; cases h') ?_
       refine AllG.cons (k' := 45) rfl (fun h => by have h' : true = false := h; cases h') ?_
       refine AllG.cons (k' := 46) rfl (fun h => by have h' : true = false := h; cases h') ?_
       refine AllG.cons (k' := 47) rfl (fun h => by have h' : true = false := h; cases h') ?_
       refine AllG.cons (k' := 48) rfl (fun h => by have h' : true = false := h; cases h') ?_
       refine AllG.cons (k' := 49) rfl (fun h => by have h' : true = false := h; cases h') ?_
       refine AllG.cons (k' := 50) rfl (fun h => by have h' : true = false := h; cases h') ?_
       refine AllG.cons (k' := 51) rfl (fun h => by have h' : true = false := h; cases h') ?_
       refine AllG.cons (k' := 52) rfl (fun h => by have h' : true = false := h; cases h') ?_
       refine AllG.cons (k' := 53) rfl (fun h => by have h' : true = false := h; cases h') ?_
       refine AllG.cons (k' := 54) rfl (fun h => by have h' : true = false := h; cases h') ?_
       refine AllG.cons (k' := 55) rfl (fun h => by have h' : true = false := h; cases h') ?_
       refine AllG.cons (k' := 56) rfl (fun h => by have h' : true = false := h; cases h') ?_
       refine AllG.cons (k' := 57) rfl (fun h => by have h' : true = false := h; cases h') ?_
       refine AllG.cons (k' := 58) rfl (fun h => by have h' : true = false := h; cases h') ?_
       refine AllG.cons (k' := 59) rfl (fun h => by have h' : true = false := h; cases h') ?_
       refine AllG.cons (k' := 60) rfl (fun h => by have h' : true = false := h; cases h') ?_
       refine AllG.cons (k' := 61) rfl (fun h => by have h' : true = false := h; cases h') ?_
       refine AllG.cons (k' := 62) rfl (fun h => by have h' : true = false := h; cases h') ?_
       refine AllG.cons (k' := 63) rfl (fun h => by have h' : true = false := h; cases h') ?_
       refine AllG.cons (k' := 64) rfl (fun h => by have h' : true = false := h; cases h') ?_
       refine AllG.cons (k' := 65) rfl (fun h => by have h' : true = false := h; cases h') ?_
       refine AllG.cons (k' := 66) rfl (fun h => by have h' : true = false := h; cases h') ?_
       refine AllG.cons (k' := 67) rfl (fun h => by have h' : true = false := h; cases h') ?_
       refine AllG.cons (k' := 68) rfl (fun h => by have h' : true = false := h; cases h') ?_
       refine AllG.cons (k' := 69) rfl (fun h => by have h' : true = false := h; cases h') ?_
       refine AllG.cons (k' := 70) rfl (fun h => by have h' : true = false := h; cases h') ?_
       refine AllG.cons (k' := 71) rfl (fun h => by have h' : true = false := h; cases h') ?_
       refine AllG.cons (k' := 72) rfl (fun h => by have h' : true = false := h; cases h') ?_
       exact AllG.nil
     case hop =>
       refine AllG.get0 ?_
       refine AllG.cons (k' := 1) rfl ?_ ?_
       · intro _
         intro a' w' hB hk hin KK hK
         refine wp_load_coreK _ rfl w.heap.size 0 _ (eval_tmp (by rw [hk 4 (by kernel_rfl)]; rfl)) (BX4.out _ hB).1 ?_
         exact hK _ _ hB (KeepsC.of_below (Below.refl _ _)) (fact_put (P := isCore x) rfl ⟨_, rfl, (BX4.out _ hB).2⟩)
       refine AllG.cons (k' := 2) rfl ?_ ?_
       · intro _
         intro a' w' hB hk hin KK hK
         refine wp_load_coreK _ rfl (w.heap.size + 1) 0 _ (eval_tmp (by rw [hk 5 (by kernel_rfl)]; rfl)) (BX5.out _ hB).1 ?_
         exact hK _ _ hB (KeepsC.of_below (Below.refl _ _)) (fact_put (P := isCore y) rfl ⟨_, rfl, (BX5.out _ hB).2⟩)
       refine AllG.cons (k' := 3) rfl ?_ ?_
       · intro _
         intro a' w' hB hk hin KK hK
         obtain ⟨v1, e1, q1⟩ := hin 0 _ 45 rfl rfl ⟨{ on := 0, ground := .data }, by simp, rfl, rfl⟩
         have q1 := fact_get (P := isCore x) rfl q1
         obtain ⟨zs1, r1, hat1⟩ := q1
         subst r1
         obtain ⟨v2, e2, q2⟩ := hin 1 _ 46 rfl rfl ⟨{ on := 1, ground := .data }, by simp, rfl, rfl⟩
         have q2 := fact_get (P := isCore y) rfl q2
         obtain ⟨zs2, r2, hat2⟩ := q2
         subst r2
         unfold Oper.wp execOp
         go_simp
         refine (K.seq_walk hat1 hat2).mono ?_
         rintro e wn ⟨zz, rfl, hat, hbn⟩
         exact hK _ _ (hB.trans (hbn.mono hB.size)) (KeepsC.of_below hbn) (fact_put (P := isCore (K.Cr.mk 3 0 0 [x, y])) rfl ⟨zz, rfl, hat⟩)
       refine AllG.cons (k' := 4) rfl ?_ ?_
       · intro _
         intro a' w' hB hk hin KK hK
         refine wp_load_valK _ rfl b11 0 _ (eval_tmp (by rw [hk 11 (by kernel_rfl)]; rfl)) (BX11.out _ hB).1 ?_
         exact hK _ _ hB (KeepsC.of_below (Below.refl _ _)) (fact_put (P := isVal (Vl.mk 3 0 [v, u])) rfl ⟨_, rfl, (BX11.out _ hB).2⟩)
       refine AllG.cons (k' := 5) rfl ?_ ?_
       · intro _
         intro a' w' hB hk hin KK hK
         obtain ⟨v3, e3, q3⟩ := hin 2 _ 47 rfl rfl ⟨{ on := 2, ground := .data }, by simp, rfl, rfl⟩
         have q3 := fact_get (P := isCore (K.Cr.mk 3 0 0 [x, y])) rfl q3
         obtain ⟨zs3, r3, hat3⟩ := q3
         subst r3
         obtain ⟨v4, e4, q4⟩ := hin 3 _ 48 rfl rfl ⟨{ on := 3, ground := .data }, by simp, rfl, rfl⟩
         have q4 := fact_get (P := isVal (Vl.mk 3 0 [v, u])) rfl q4
         obtain ⟨zs4, r4, hat4⟩ := q4
         subst r4
         unfold Oper.wp execOp
         go_simp
         refine (good_eq (b := q) hat3 hat4 ((made_seq B5 v u).trans (by rw [Hp.out, Hq.out]; simp))).mono ?_
         rintro e wn ⟨rfl, hbn⟩
         exact hK _ _ (hB.trans (hbn.mono hB.size)) (KeepsC.of_below hbn) (fact_put (P := isEq (.bool q)) rfl rfl)
       refine AllG.cons (k' := 6) rfl ?_ ?_
       · intro _
         intro a' w' hB hk hin KK hK
         have hkk : a'.tmps[9]? = some (.bool true) := (hk 9 (by kernel_rfl)).trans rfl
         have hev := eval_tmp hkk
         unfold Oper.wp execOp
         simp only [hev, Sem.run_pure]
         exact hK _ _ hB (KeepsC.of_below (Below.refl _ _)) (fact_put (P := isEq (.bool true)) rfl rfl)
       refine AllG.cons (k' := 7) rfl ?_ ?_
       · intro _
         intro a' w' hB hk hin KK hK
         obtain ⟨v5, e5, q5⟩ := hin 5 _ 50 rfl rfl ⟨{ on := 5, ground := .data }, by simp, rfl, rfl⟩
         have q5 := fact_get (P := isEq (.bool true)) rfl q5
         have q5' : v5 = .bool true := q5
         subst q5'
         unfold Oper.wp execOp
         go_simp
         exact hK _ _ hB (KeepsC.of_below (Below.refl _ _)) (fact_put (P := isEq (.bool true)) rfl rfl)
       refine AllG.cons (k' := 8) rfl ?_ ?_
       · intro _
         intro a' w' hB hk hin KK hK
         have hkk : a'.tmps[10]? = some (.bool q) := (hk 10 (by kernel_rfl)).trans rfl
         have hev := eval_tmp hkk
         unfold Oper.wp execOp
         simp only [hev, Sem.run_pure]
         exact hK _ _ hB (KeepsC.of_below (Below.refl _ _)) (fact_put (P := isEq (.bool q)) rfl rfl)
       refine AllG.cons (k' := 9) rfl ?_ ?_
       · intro _
         intro a' w' hB hk hin KK hK
         obtain ⟨v6, e6, q6⟩ := hin 6 _ 51 rfl rfl ⟨{ on := 6, ground := .data }, by simp, rfl, rfl⟩
         have q6 := fact_get (P := isEq (.bool true)) rfl q6
         have q6' : v6 = .bool true := q6
         subst q6'
         obtain ⟨v7, e7, q7⟩ := hin 7 _ 52 rfl rfl ⟨{ on := 7, ground := .data }, by simp, rfl, rfl⟩
         have q7 := fact_get (P := isEq (.bool q)) rfl q7
         have q7' : v7 = .bool q := q7
         subst q7'
         unfold Oper.wp execOp
         go_simp
         exact hK _ _ hB (KeepsC.of_below (Below.refl _ _)) (fact_put (P := isEq (.bool q)) rfl rfl)
       refine AllG.cons (k' := 10) rfl ?_ ?_
       · intro _
         intro a' w' hB hk hin KK hK
         obtain ⟨v8, e8, q8⟩ := hin 4 _ 49 rfl rfl ⟨{ on := 4, ground := .data }, by simp, rfl, rfl⟩
         have q8 := fact_get (P := isEq (.bool q)) rfl q8
         have q8' : v8 = .bool q := q8
         subst q8'
         obtain ⟨v9, e9, q9⟩ := hin 8 _ 53 rfl rfl ⟨{ on := 8, ground := .data }, by simp, rfl, rfl⟩
         have q9 := fact_get (P := isEq (.bool q)) rfl q9
         have q9' : v9 = .bool q := q9
         subst q9'
         unfold Oper.wp execOp
         go_simp
         exact hK _ _ hB (KeepsC.of_below (Below.refl _ _)) (fact_put (P := isEq (.bool true)) rfl (by show Value.bool _ = Value.bool _; simp))
       refine AllG.cons (k' := 11) rfl ?_ ?_
       · intro _
         intro a' w' hB hk hin KK hK
         obtain ⟨v10, e10, q10⟩ := hin 9 _ 54 rfl rfl ⟨{ on := 9, ground := .data }, by simp, rfl, rfl⟩
         have q10 := fact_get (P := isEq (.bool true)) rfl q10
         have q10' : v10 = .bool true := q10
         subst q10'
         unfold Oper.wp execOp
         go_simp
         exact hK _ _ hB (KeepsC.of_below (Below.refl _ _)) (fact_put (P := isEq (.bool true)) rfl rfl)
       refine AllG.cons (k' := 12) rfl ?_ ?_
       · intro _
         intro a' w' hB hk hin KK hK
         refine wp_load_coreK _ rfl w.heap.size 0 _ (eval_tmp (by rw [hk 4 (by kernel_rfl)]; rfl)) (BX4.out _ hB).1 ?_
         exact hK _ _ hB (KeepsC.of_below (Below.refl _ _)) (fact_put (P := isCore x) rfl ⟨_, rfl, (BX4.out _ hB).2⟩)
       refine AllG.cons (k' := 13) rfl ?_ ?_
       · intro _
         intro a' w' hB hk hin KK hK
         refine wp_load_coreK _ rfl (w.heap.size + 1) 0 _ (eval_tmp (by rw [hk 5 (by kernel_rfl)]; rfl)) (BX5.out _ hB).1 ?_
         exact hK _ _ hB (KeepsC.of_below (Below.refl _ _)) (fact_put (P := isCore y) rfl ⟨_, rfl, (BX5.out _ hB).2⟩)
       refine AllG.cons (k' := 14) rfl ?_ ?_
       · intro _
         intro a' w' hB hk hin KK hK
         obtain ⟨v11, e11, q11⟩ := hin 11 _ 56 rfl rfl ⟨{ on := 11, ground := .data }, by simp, rfl, rfl⟩
         have q11 := fact_get (P := isCore x) rfl q11
         obtain ⟨zs11, r11, hat11⟩ := q11
         subst r11
         obtain ⟨v12, e12, q12⟩ := hin 12 _ 57 rfl rfl ⟨{ on := 12, ground := .data }, by simp, rfl, rfl⟩
         have q12 := fact_get (P := isCore y) rfl q12
         obtain ⟨zs12, r12, hat12⟩ := q12
         subst r12
         unfold Oper.wp execOp
         go_simp
         refine (K.alt_walk hat11 hat12).mono ?_
         rintro e wn ⟨zz, rfl, hat, hbn⟩
         exact hK _ _ (hB.trans (hbn.mono hB.size)) (KeepsC.of_below hbn) (fact_put (P := isCore (K.Cr.mk 4 0 0 [x, y])) rfl ⟨zz, rfl, hat⟩)
       refine AllG.cons (k' := 15) rfl ?_ ?_
       · intro _
         intro a' w' hB hk hin KK hK
         refine wp_load_valK _ rfl (w.heap.size + 2) 0 _ (eval_tmp (by rw [hk 6 (by kernel_rfl)]; rfl)) (BX6.out _ hB).1 ?_
         exact hK _ _ hB (KeepsC.of_below (Below.refl _ _)) (fact_put (P := isVal v) rfl ⟨_, rfl, (BX6.out _ hB).2⟩)
       refine AllG.cons (k' := 16) rfl ?_ ?_
       · intro _
         intro a' w' hB hk hin KK hK
         obtain ⟨v13, e13, q13⟩ := hin 14 _ 59 rfl rfl ⟨{ on := 14, ground := .data }, by simp, rfl, rfl⟩
         have q13 := fact_get (P := isVal v) rfl q13
         obtain ⟨zs13, r13, hat13⟩ := q13
         subst r13
         have ha13 := at_lit hat13
         obtain ⟨k13, z13, a13, len13, cap13, rfl⟩ := ha13
         have hv := fun cs hc => vals_lit w' [(v, [.int .i64 k13, .int .u8 z13, .slice a13 len13 cap13])] (by intro p hp; simp only [List.mem_cons, List.not_mem_nil, or_false] at hp; rcases hp with rfl <;> assumption) cs hc (by show 1 ≤ maxLen; decide)
         unfold Oper.wp execOp
         go_simp
         exact hK _ _ (hB.alloc hB.size _) (KeepsC.of_below ((Below.refl _ _).alloc (Nat.le_refl _) _)) (fact_put (P := isVals [v]) rfl (hv _ rfl))
       refine AllG.cons (k' := 17) rfl ?_ ?_
       · intro _
         intro a' w' hB hk hin KK hK
         obtain ⟨v14, e14, q14⟩ := hin 15 _ 60 rfl rfl ⟨{ on := 15, ground := .data }, by simp, rfl, rfl⟩
         have q14 := fact_get (P := isVals [v]) rfl q14
         have hl14 := q14
         obtain ⟨a14, cap14, r14, _⟩ := q14
         subst r14
         unfold Oper.wp execOp
         go_simp
         exact hK _ _ hB (KeepsC.of_below (Below.refl _ _)) (fact_put (P := isVal (Vl.mk 4 0 [v])) rfl ⟨[_, _, _], rfl, at_of_list hl14 rfl (by decide)⟩)
       refine AllG.cons (k' := 18) rfl ?_ ?_
       · intro _
         intro a' w' hB hk hin KK hK
         obtain ⟨v15, e15, q15⟩ := hin 13 _ 58 rfl rfl ⟨{ on := 13, ground := .data }, by simp, rfl, rfl⟩
         have q15 := fact_get (P := isCore (K.Cr.mk 4 0 0 [x, y])) rfl q15
         obtain ⟨zs15, r15, hat15⟩ := q15
         subst r15
         obtain ⟨v16, e16, q16⟩ := hin 16 _ 61 rfl rfl ⟨{ on := 16, ground := .data }, by simp, rfl, rfl⟩
         have q16 := fact_get (P := isVal (Vl.mk 4 0 [v])) rfl q16
         obtain ⟨zs16, r16, hat16⟩ := q16
         subst r16
         unfold Oper.wp execOp
         go_simp
         refine (good_eq (b := true) hat15 hat16 ((made_left B5 v).trans Hp.out)).mono ?_
         rintro e wn ⟨rfl, hbn⟩
         exact hK _ _ (hB.trans (hbn.mono hB.size)) (KeepsC.of_below hbn) (fact_put (P := isEq (.bool true)) rfl rfl)
       refine AllG.cons (k' := 19) rfl ?_ ?_
       · intro _
         intro a' w' hB hk hin KK hK
         have hkk : a'.tmps[9]? = some (.bool true) := (hk 9 (by kernel_rfl)).trans rfl
         have hev := eval_tmp hkk
         unfold Oper.wp execOp
         simp only [hev, Sem.run_pure]
         exact hK _ _ hB (KeepsC.of_below (Below.refl _ _)) (fact_put (P := isEq (.bool true)) rfl rfl)
       refine AllG.cons (k' := 20) rfl ?_ ?_
       · intro _
         intro a' w' hB hk hin KK hK
         obtain ⟨v17, e17, q17⟩ := hin 17 _ 62 rfl rfl ⟨{ on := 17, ground := .data }, by simp, rfl, rfl⟩
         have q17 := fact_get (P := isEq (.bool true)) rfl q17
         have q17' : v17 = .bool true := q17
         subst q17'
         obtain ⟨v18, e18, q18⟩ := hin 18 _ 63 rfl rfl ⟨{ on := 18, ground := .data }, by simp, rfl, rfl⟩
         have q18 := fact_get (P := isEq (.bool true)) rfl q18
         have q18' : v18 = .bool true := q18
         subst q18'
         unfold Oper.wp execOp
         go_simp
         exact hK _ _ hB (KeepsC.of_below (Below.refl _ _)) (fact_put (P := isEq (.bool true)) rfl (by show Value.bool _ = Value.bool _; simp))
       refine AllG.cons (k' := 21) rfl ?_ ?_
       · intro _
         intro a' w' hB hk hin KK hK
         obtain ⟨v19, e19, q19⟩ := hin 10 _ 55 rfl rfl ⟨{ on := 10, ground := .data }, by simp, rfl, rfl⟩
         have q19 := fact_get (P := isEq (.bool true)) rfl q19
         have q19' : v19 = .bool true := q19
         subst q19'
         obtain ⟨v20, e20, q20⟩ := hin 19 _ 64 rfl rfl ⟨{ on := 19, ground := .data }, by simp, rfl, rfl⟩
         have q20 := fact_get (P := isEq (.bool true)) rfl q20
         have q20' : v20 = .bool true := q20
         subst q20'
         unfold Oper.wp execOp
         go_simp
         exact hK _ _ hB (KeepsC.of_below (Below.refl _ _)) (fact_put (P := isEq (.bool true)) rfl rfl)
       refine AllG.cons (k' := 22) rfl ?_ ?_
       · intro _
         intro a' w' hB hk hin KK hK
         obtain ⟨v21, e21, q21⟩ := hin 20 _ 65 rfl rfl ⟨{ on := 20, ground := .data }, by simp, rfl, rfl⟩
         have q21 := fact_get (P := isEq (.bool true)) rfl q21
         have q21' : v21 = .bool true := q21
         subst q21'
         unfold Oper.wp execOp
         go_simp
         exact hK _ _ hB (KeepsC.of_below (Below.refl _ _)) (fact_put (P := isEq (.bool true)) rfl rfl)
       refine AllG.cons (k' := 23) rfl ?_ ?_
       · intro _
         intro a' w' hB hk hin KK hK
         refine wp_load_coreK _ rfl w.heap.size 0 _ (eval_tmp (by rw [hk 4 (by kernel_rfl)]; rfl)) (BX4.out _ hB).1 ?_
         exact hK _ _ hB (KeepsC.of_below (Below.refl _ _)) (fact_put (P := isCore x) rfl ⟨_, rfl, (BX4.out _ hB).2⟩)
       refine AllG.cons (k' := 24) rfl ?_ ?_
       · intro _
         intro a' w' hB hk hin KK hK
         refine wp_load_coreK _ rfl (w.heap.size + 1) 0 _ (eval_tmp (by rw [hk 5 (by kernel_rfl)]; rfl)) (BX5.out _ hB).1 ?_
         exact hK _ _ hB (KeepsC.of_below (Below.refl _ _)) (fact_put (P := isCore y) rfl ⟨_, rfl, (BX5.out _ hB).2⟩)
       refine AllG.cons (k' := 25) rfl ?_ ?_
       · intro _
         intro a' w' hB hk hin KK hK
         obtain ⟨v22, e22, q22⟩ := hin 22 _ 67 rfl rfl ⟨{ on := 22, ground := .data }, by simp, rfl, rfl⟩
         have q22 := fact_get (P := isCore x) rfl q22
         obtain ⟨zs22, r22, hat22⟩ := q22
         subst r22
         obtain ⟨v23, e23, q23⟩ := hin 23 _ 68 rfl rfl ⟨{ on := 23, ground := .data }, by simp, rfl, rfl⟩
         have q23 := fact_get (P := isCore y) rfl q23
         obtain ⟨zs23, r23, hat23⟩ := q23
         subst r23
         unfold Oper.wp execOp
         go_simp
         refine (K.alt_walk hat22 hat23).mono ?_
         rintro e wn ⟨zz, rfl, hat, hbn⟩
         exact hK _ _ (hB.trans (hbn.mono hB.size)) (KeepsC.of_below hbn) (fact_put (P := isCore (K.Cr.mk 4 0 0 [x, y])) rfl ⟨zz, rfl, hat⟩)
       refine AllG.cons (k' := 26) rfl ?_ ?_
       · intro _
         intro a' w' hB hk hin KK hK
         refine wp_load_valK _ rfl (w.heap.size + 3) 0 _ (eval_tmp (by rw [hk 7 (by kernel_rfl)]; rfl)) (BX7.out _ hB).1 ?_
         exact hK _ _ hB (KeepsC.of_below (Below.refl _ _)) (fact_put (P := isVal u) rfl ⟨_, rfl, (BX7.out _ hB).2⟩)
       refine AllG.cons (k' := 27) rfl ?_ ?_
       · intro _
         intro a' w' hB hk hin KK hK
         obtain ⟨v24, e24, q24⟩ := hin 25 _ 70 rfl rfl ⟨{ on := 25, ground := .data }, by simp, rfl, rfl⟩
         have q24 := fact_get (P := isVal u) rfl q24
         obtain ⟨zs24, r24, hat24⟩ := q24
         subst r24
         have ha24 := at_lit hat24
         obtain ⟨k24, z24, a24, len24, cap24, rfl⟩ := ha24
         have hv := fun cs hc => vals_lit w' [(u, [.int .i64 k24, .int .u8 z24, .slice a24 len24 cap24])] (by intro p hp; simp only [List.mem_cons, List.not_mem_nil, or_false] at hp; rcases hp with rfl <;> assumption) cs hc (by show 1 ≤ maxLen; decide)
         unfold Oper.wp execOp
         go_simp
         exact hK _ _ (hB.alloc hB.size _) (KeepsC.of_below ((Below.refl _ _).alloc (Nat.le_refl _) _)) (fact_put (P := isVals [u]) rfl (hv _ rfl))
       refine AllG.cons (k' := 28) rfl ?_ ?_
       · intro _
         intro a' w' hB hk hin KK hK
         obtain ⟨v25, e25, q25⟩ := hin 26 _ 71 rfl rfl ⟨{ on := 26, ground := .data }, by simp, rfl, rfl⟩
         have q25 := fact_get (P := isVals [u]) rfl q25
         have hl25 := q25
         obtain ⟨a25, cap25, r25, _⟩ := q25
         subst r25
         unfold Oper.wp execOp
         go_simp
         exact hK _ _ hB (KeepsC.of_below (Below.refl _ _)) (fact_put (P := isVal (Vl.mk 5 0 [u])) rfl ⟨[_, _, _], rfl, at_of_list hl25 rfl (by decide)⟩)
       refine AllG.cons (k' := 29) rfl ?_ ?_
       · intro _
         intro a' w' hB hk hin KK hK
         obtain ⟨v26, e26, q26⟩ := hin 24 _ 69 rfl rfl ⟨{ on := 24, ground := .data }, by simp, rfl, rfl⟩
         have q26 := fact_get (P := isCore (K.Cr.mk 4 0 0 [x, y])) rfl q26
         obtain ⟨zs26, r26, hat26⟩ := q26
         subst r26
         obtain ⟨v27, e27, q27⟩ := hin 27 _ 72 rfl rfl ⟨{ on := 27, ground := .data }, by simp, rfl, rfl⟩
         have q27 := fact_get (P := isVal (Vl.mk 5 0 [u])) rfl q27
         obtain ⟨zs27, r27, hat27⟩ := q27
         subst r27
         unfold Oper.wp execOp
         go_simp
         refine (good_eq (b := q) hat26 hat27 ((made_right B5 u).trans Hq.out)).mono ?_
         rintro e wn ⟨rfl, hbn⟩
         exact hK _ _ (hB.trans (hbn.mono hB.size)) (KeepsC.of_below hbn) (fact_put (P := isEq (.bool q)) rfl rfl)
       refine AllG.cons (k' := 30) rfl ?_ ?_
       · intro _
         intro a' w' hB hk hin KK hK
         have hkk : a'.tmps[10]? = some (.bool q) := (hk 10 (by kernel_rfl)).trans rfl
         have hev := eval_tmp hkk
         unfold Oper.wp execOp
         simp only [hev, Sem.run_pure]
         exact hK _ _ hB (KeepsC.of_below (Below.refl _ _)) (fact_put (P := isEq (.bool q)) rfl rfl)
       refine AllG.cons (k' := 31) rfl ?_ ?_
       · intro _
         intro a' w' hB hk hin KK hK
         obtain ⟨v28, e28, q28⟩ := hin 28 _ 73 rfl rfl ⟨{ on := 28, ground := .data }, by simp, rfl, rfl⟩
         have q28 := fact_get (P := isEq (.bool q)) rfl q28
         have q28' : v28 = .bool q := q28
         subst q28'
         obtain ⟨v29, e29, q29⟩ := hin 29 _ 74 rfl rfl ⟨{ on := 29, ground := .data }, by simp, rfl, rfl⟩
         have q29 := fact_get (P := isEq (.bool q)) rfl q29
         have q29' : v29 = .bool q := q29
         subst q29'
         unfold Oper.wp execOp
         go_simp
         exact hK _ _ hB (KeepsC.of_below (Below.refl _ _)) (fact_put (P := isEq (.bool true)) rfl (by show Value.bool _ = Value.bool _; simp))
       refine AllG.cons (k' := 32) rfl ?_ ?_
       · intro _
         intro a' w' hB hk hin KK hK
         obtain ⟨v30, e30, q30⟩ := hin 21 _ 66 rfl rfl ⟨{ on := 21, ground := .data }, by simp, rfl, rfl⟩
         have q30 := fact_get (P := isEq (.bool true)) rfl q30
         have q30' : v30 = .bool true := q30
         subst q30'
         obtain ⟨v31, e31, q31⟩ := hin 30 _ 75 rfl rfl ⟨{ on := 30, ground := .data }, by simp, rfl, rfl⟩
         have q31 := fact_get (P := isEq (.bool true)) rfl q31
         have q31' : v31 = .bool true := q31
         subst q31'
         unfold Oper.wp execOp
         go_simp
         exact hK _ _ hB (KeepsC.of_below (Below.refl _ _)) (fact_put (P := isEq (.bool true)) rfl rfl)
       refine AllG.cons (k' := 33) rfl ?_ ?_
       · intro _
         intro a' w' hB hk hin KK hK
         obtain ⟨v32, e32, q32⟩ := hin 31 _ 76 rfl rfl ⟨{ on := 31, ground := .data }, by simp, rfl, rfl⟩
         have q32 := fact_get (P := isEq (.bool true)) rfl q32
         have q32' : v32 = .bool true := q32
         subst q32'
         unfold Oper.wp execOp
         go_simp
         exact hK _ _ hB (KeepsC.of_below (Below.refl _ _)) (fact_put (P := isEq (.bool true)) rfl rfl)
       refine AllG.cons (k' := 34) rfl ?_ ?_
       · intro _
         intro a' w' hB hk hin KK hK
         refine wp_load_coreK _ rfl w.heap.size 0 _ (eval_tmp (by rw [hk 4 (by kernel_rfl)]; rfl)) (BX4.out _ hB).1 ?_
         exact hK _ _ hB (KeepsC.of_below (Below.refl _ _)) (fact_put (P := isCore x) rfl ⟨_, rfl, (BX4.out _ hB).2⟩)
       refine AllG.cons (k' := 35) rfl ?_ ?_
       · intro _
         intro a' w' hB hk hin KK hK
         obtain ⟨v33, e33, q33⟩ := hin 33 _ 78 rfl rfl ⟨{ on := 33, ground := .data }, by simp, rfl, rfl⟩
         have q33 := fact_get (P := isCore x) rfl q33
         obtain ⟨zs33, r33, hat33⟩ := q33
         subst r33
         unfold Oper.wp execOp
         go_simp
         refine (K.star_walk hat33).mono ?_
         rintro e wn ⟨zz, rfl, hat, hbn⟩
         exact hK _ _ (hB.trans (hbn.mono hB.size)) (KeepsC.of_below hbn) (fact_put (P := isCore (K.Cr.mk 5 0 0 [x])) rfl ⟨zz, rfl, hat⟩)
       refine AllG.cons (k' := 36) rfl ?_ ?_
       · intro _
         intro a' w' hB hk hin KK hK
         refine wp_load_valK _ rfl (w.heap.size + 2) 0 _ (eval_tmp (by rw [hk 6 (by kernel_rfl)]; rfl)) (BX6.out _ hB).1 ?_
         exact hK _ _ hB (KeepsC.of_below (Below.refl _ _)) (fact_put (P := isVal v) rfl ⟨_, rfl, (BX6.out _ hB).2⟩)
       refine AllG.cons (k' := 37) rfl ?_ ?_
       · intro _
         intro a' w' hB hk hin KK hK
         refine wp_load_valK _ rfl (w.heap.size + 2) 0 _ (eval_tmp (by rw [hk 6 (by kernel_rfl)]; rfl)) (BX6.out _ hB).1 ?_
         exact hK _ _ hB (KeepsC.of_below (Below.refl _ _)) (fact_put (P := isVal v) rfl ⟨_, rfl, (BX6.out _ hB).2⟩)
       refine AllG.cons (k' := 38) rfl ?_ ?_
       · intro _
         intro a' w' hB hk hin KK hK
         obtain ⟨v34, e34, q34⟩ := hin 35 _ 80 rfl rfl ⟨{ on := 35, ground := .data }, by simp, rfl, rfl⟩
         have q34 := fact_get (P := isVal v) rfl q34
         obtain ⟨zs34, r34, hat34⟩ := q34
         subst r34
         have ha34 := at_lit hat34
         obtain ⟨k34, z34, a34, len34, cap34, rfl⟩ := ha34
         obtain ⟨v35, e35, q35⟩ := hin 36 _ 81 rfl rfl ⟨{ on := 36, ground := .data }, by simp, rfl, rfl⟩
         have q35 := fact_get (P := isVal v) rfl q35
         obtain ⟨zs35, r35, hat35⟩ := q35
         subst r35
         have ha35 := at_lit hat35
         obtain ⟨k35, z35, a35, len35, cap35, rfl⟩ := ha35
         have hv := fun cs hc => vals_lit w' [(v, [.int .i64 k34, .int .u8 z34, .slice a34 len34 cap34]), (v, [.int .i64 k35, .int .u8 z35, .slice a35 len35 cap35])] (by intro p hp; simp only [List.mem_cons, List.not_mem_nil, or_false] at hp; rcases hp with rfl | rfl <;> assumption) cs hc (by show 2 ≤ maxLen; decide)
         unfold Oper.wp execOp
         go_simp
         exact hK _ _ (hB.alloc hB.size _) (KeepsC.of_below ((Below.refl _ _).alloc (Nat.le_refl _) _)) (fact_put (P := isVals [v, v]) rfl (hv _ rfl))
       refine AllG.cons (k' := 39) rfl ?_ ?_
       · intro _
         intro a' w' hB hk hin KK hK
         obtain ⟨v36, e36, q36⟩ := hin 37 _ 82 rfl rfl ⟨{ on := 37, ground := .data }, by simp, rfl, rfl⟩
         have q36 := fact_get (P := isVals [v, v]) rfl q36
         have hl36 := q36
         obtain ⟨a36, cap36, r36, _⟩ := q36
         subst r36
         unfold Oper.wp execOp
         go_simp
         exact hK _ _ hB (KeepsC.of_below (Below.refl _ _)) (fact_put (P := isVal (Vl.mk 6 0 [v, v])) rfl ⟨[_, _, _], rfl, at_of_list hl36 rfl (by decide)⟩)
       refine AllG.cons (k' := 40) rfl ?_ ?_
       · intro _
         intro a' w' hB hk hin KK hK
         obtain ⟨v37, e37, q37⟩ := hin 34 _ 79 rfl rfl ⟨{ on := 34, ground := .data }, by simp, rfl, rfl⟩
         have q37 := fact_get (P := isCore (K.Cr.mk 5 0 0 [x])) rfl q37
         obtain ⟨zs37, r37, hat37⟩ := q37
         subst r37
         obtain ⟨v38, e38, q38⟩ := hin 38 _ 83 rfl rfl ⟨{ on := 38, ground := .data }, by simp, rfl, rfl⟩
         have q38 := fact_get (P := isVal (Vl.mk 6 0 [v, v])) rfl q38
         obtain ⟨zs38, r38, hat38⟩ := q38
         subst r38
         unfold Oper.wp execOp
         go_simp
         refine (good_eq (b := true) hat37 hat38 ((made_star B5 v).trans Hp.out)).mono ?_
         rintro e wn ⟨rfl, hbn⟩
         exact hK _ _ (hB.trans (hbn.mono hB.size)) (KeepsC.of_below hbn) (fact_put (P := isEq (.bool true)) rfl rfl)
       refine AllG.cons (k' := 41) rfl ?_ ?_
       · intro _
         intro a' w' hB hk hin KK hK
         have hkk : a'.tmps[9]? = some (.bool true) := (hk 9 (by kernel_rfl)).trans rfl
         have hev := eval_tmp hkk
         unfold Oper.wp execOp
         simp only [hev, Sem.run_pure]
         exact hK _ _ hB (KeepsC.of_below (Below.refl _ _)) (fact_put (P := isEq (.bool true)) rfl rfl)
       refine AllG.cons (k' := 42) rfl ?_ ?_
       · intro _
         intro a' w' hB hk hin KK hK
         obtain ⟨v39, e39, q39⟩ := hin 39 _ 84 rfl rfl ⟨{ on := 39, ground := .data }, by simp, rfl, rfl⟩
         have q39 := fact_get (P := isEq (.bool true)) rfl q39
         have q39' : v39 = .bool true := q39
         subst q39'
         obtain ⟨v40, e40, q40⟩ := hin 40 _ 85 rfl rfl ⟨{ on := 40, ground := .data }, by simp, rfl, rfl⟩
         have q40 := fact_get (P := isEq (.bool true)) rfl q40
         have q40' : v40 = .bool true := q40
         subst q40'
         unfold Oper.wp execOp
         go_simp
         exact hK _ _ hB (KeepsC.of_below (Below.refl _ _)) (fact_put (P := isEq (.bool true)) rfl (by show Value.bool _ = Value.bool _; simp))
       refine AllG.cons (k' := 43) rfl ?_ ?_
       · intro _
         intro a' w' hB hk hin KK hK
         obtain ⟨v41, e41, q41⟩ := hin 32 _ 77 rfl rfl ⟨{ on := 32, ground := .data }, by simp, rfl, rfl⟩
         have q41 := fact_get (P := isEq (.bool true)) rfl q41
         have q41' : v41 = .bool true := q41
         subst q41'
         obtain ⟨v42, e42, q42⟩ := hin 41 _ 86 rfl rfl ⟨{ on := 41, ground := .data }, by simp, rfl, rfl⟩
         have q42 := fact_get (P := isEq (.bool true)) rfl q42
         have q42' : v42 = .bool true := q42
         subst q42'
         unfold Oper.wp execOp
         go_simp
         exact hK _ _ hB (KeepsC.of_below (Below.refl _ _)) (fact_put (P := isEq (.bool true)) rfl rfl)
       refine AllG.cons (k' := 44) rfl ?_ ?_
       · intro _
         intro a' w' hB hk hin KK hK
         obtain ⟨v43, e43, q43⟩ := hin 42 _ 87 rfl rfl ⟨{ on := 42, ground := .data }, by simp, rfl, rfl⟩
         have q43 := fact_get (P := isEq (.bool true)) rfl q43
         have q43' : v43 = .bool true := q43
         subst q43'
         unfold Oper.wp execOp
         go_simp
         exact hK _ _ hB (KeepsC.of_below (Below.refl _ _)) (fact_put (P := isEq (.bool true)) rfl rfl)
       refine AllG.cons (k' := 45) rfl ?_ ?_
       · intro _
         intro a' w' hB hk hin KK hK
         refine wp_load_coreK _ rfl w.heap.size 0 _ (eval_tmp (by rw [hk 4 (by kernel_rfl)]; rfl)) (BX4.out _ hB).1 ?_
         exact hK _ _ hB (KeepsC.of_below (Below.refl _ _)) (fact_put (P := isCore x) rfl ⟨_, rfl, (BX4.out _ hB).2⟩)
       refine AllG.cons (k' := 46) rfl ?_ ?_
       · intro _
         intro a' w' hB hk hin KK hK
         obtain ⟨v44, e44, q44⟩ := hin 44 _ 89 rfl rfl ⟨{ on := 44, ground := .data }, by simp, rfl, rfl⟩
         have q44 := fact_get (P := isCore x) rfl q44
         obtain ⟨zs44, r44, hat44⟩ := q44
         subst r44
         unfold Oper.wp execOp
         go_simp
         refine (K.grp_walk 1 rfl hat44).mono ?_
         rintro e wn ⟨zz, rfl, hat, hbn⟩
         exact hK _ _ (hB.trans (hbn.mono hB.size)) (KeepsC.of_below hbn) (fact_put (P := isCore (K.Cr.mk 6 0 1 [x])) rfl ⟨zz, rfl, hat⟩)
       refine AllG.cons (k' := 47) rfl ?_ ?_
       · intro _
         intro a' w' hB hk hin KK hK
         refine wp_load_valK _ rfl (w.heap.size + 2) 0 _ (eval_tmp (by rw [hk 6 (by kernel_rfl)]; rfl)) (BX6.out _ hB).1 ?_
         exact hK _ _ hB (KeepsC.of_below (Below.refl _ _)) (fact_put (P := isVal v) rfl ⟨_, rfl, (BX6.out _ hB).2⟩)
       refine AllG.cons (k' := 48) rfl ?_ ?_
       · intro _
         intro a' w' hB hk hin KK hK
         obtain ⟨v45, e45, q45⟩ := hin 46 _ 91 rfl rfl ⟨{ on := 46, ground := .data }, by simp, rfl, rfl⟩
         have q45 := fact_get (P := isVal v) rfl q45
         obtain ⟨zs45, r45, hat45⟩ := q45
         subst r45
         have ha45 := at_lit hat45
         obtain ⟨k45, z45, a45, len45, cap45, rfl⟩ := ha45
         have hv := fun cs hc => vals_lit w' [(v, [.int .i64 k45, .int .u8 z45, .slice a45 len45 cap45])] (by intro p hp; simp only [List.mem_cons, List.not_mem_nil, or_false] at hp; rcases hp with rfl <;> assumption) cs hc (by show 1 ≤ maxLen; decide)
         unfold Oper.wp execOp
         go_simp
         exact hK _ _ (hB.alloc hB.size _) (KeepsC.of_below ((Below.refl _ _).alloc (Nat.le_refl _) _)) (fact_put (P := isVals [v]) rfl (hv _ rfl))
       refine AllG.cons (k' := 49) rfl ?_ ?_
       · intro _
         intro a' w' hB hk hin KK hK
         obtain ⟨v46, e46, q46⟩ := hin 47 _ 92 rfl rfl ⟨{ on := 47, ground := .data }, by simp, rfl, rfl⟩
         have q46 := fact_get (P := isVals [v]) rfl q46
         have hl46 := q46
         obtain ⟨a46, cap46, r46, _⟩ := q46
         subst r46
         unfold Oper.wp execOp
         go_simp
         exact hK _ _ hB (KeepsC.of_below (Below.refl _ _)) (fact_put (P := isVal (Vl.mk 7 0 [v])) rfl ⟨[_, _, _], rfl, at_of_list hl46 rfl (by decide)⟩)
       refine AllG.cons (k' := 50) rfl ?_ ?_
       · intro _
         intro a' w' hB hk hin KK hK
         obtain ⟨v47, e47, q47⟩ := hin 45 _ 90 rfl rfl ⟨{ on := 45, ground := .data }, by simp, rfl, rfl⟩
         have q47 := fact_get (P := isCore (K.Cr.mk 6 0 1 [x])) rfl q47
         obtain ⟨zs47, r47, hat47⟩ := q47
         subst r47
         obtain ⟨v48, e48, q48⟩ := hin 48 _ 93 rfl rfl ⟨{ on := 48, ground := .data }, by simp, rfl, rfl⟩
         have q48 := fact_get (P := isVal (Vl.mk 7 0 [v])) rfl q48
         obtain ⟨zs48, r48, hat48⟩ := q48
         subst r48
         unfold Oper.wp execOp
         go_simp
         refine (good_eq (b := true) hat47 hat48 ((made_grp B5 v).trans Hp.out)).mono ?_
         rintro e wn ⟨rfl, hbn⟩
         exact hK _ _ (hB.trans (hbn.mono hB.size)) (KeepsC.of_below hbn) (fact_put (P := isEq (.bool true)) rfl rfl)
       refine AllG.cons (k' := 51) rfl ?_ ?_
       · intro _
         intro a' w' hB hk hin KK hK
         have hkk : a'.tmps[9]? = some (.bool true) := (hk 9 (by kernel_rfl)).trans rfl
         have hev := eval_tmp hkk
         unfold Oper.wp execOp
         simp only [hev, Sem.run_pure]
         exact hK _ _ hB (KeepsC.of_below (Below.refl _ _)) (fact_put (P := isEq (.bool true)) rfl rfl)
       refine AllG.cons (k' := 52) rfl ?_ ?_
       · intro _
         intro a' w' hB hk hin KK hK
         obtain ⟨v49, e49, q49⟩ := hin 49 _ 94 rfl rfl ⟨{ on := 49, ground := .data }, by simp, rfl, rfl⟩
         have q49 := fact_get (P := isEq (.bool true)) rfl q49
         have q49' : v49 = .bool true := q49
         subst q49'
         obtain ⟨v50, e50, q50⟩ := hin 50 _ 95 rfl rfl ⟨{ on := 50, ground := .data }, by simp, rfl, rfl⟩
         have q50 := fact_get (P := isEq (.bool true)) rfl q50
         have q50' : v50 = .bool true := q50
         subst q50'
         unfold Oper.wp execOp
         go_simp
         exact hK _ _ hB (KeepsC.of_below (Below.refl _ _)) (fact_put (P := isEq (.bool true)) rfl (by show Value.bool _ = Value.bool _; simp))
       refine AllG.cons (k' := 53) rfl ?_ ?_
       · intro _
         intro a' w' hB hk hin KK hK
         obtain ⟨v51, e51, q51⟩ := hin 43 _ 88 rfl rfl ⟨{ on := 43, ground := .data }, by simp, rfl, rfl⟩
         have q51 := fact_get (P := isEq (.bool true)) rfl q51
         have q51' : v51 = .bool true := q51
         subst q51'
         obtain ⟨v52, e52, q52⟩ := hin 51 _ 96 rfl rfl ⟨{ on := 51, ground := .data }, by simp, rfl, rfl⟩
         have q52 := fact_get (P := isEq (.bool true)) rfl q52
         have q52' : v52 = .bool true := q52
         subst q52'
         unfold Oper.wp execOp
         go_simp
         exact hK _ _ hB (KeepsC.of_below (Below.refl _ _)) (fact_put (P := isEq (.bool true)) rfl rfl)
       refine AllG.cons (k' := 54) rfl ?_ ?_
       · intro _
         intro a' w' hB hk hin KK hK
         obtain ⟨v53, e53, q53⟩ := hin 52 _ 97 rfl rfl ⟨{ on := 52, ground := .data }, by simp, rfl, rfl⟩
         have q53 := fact_get (P := isEq (.bool true)) rfl q53
         have q53' : v53 = .bool true := q53
         subst q53'
         unfold Oper.wp execOp
         go_simp
         exact hK _ _ hB (KeepsC.of_below (Below.refl _ _)) (fact_put (P := isEq (.bool true)) rfl rfl)
       refine AllG.cons (k' := 55) rfl ?_ ?_
       · intro _
         intro a' w' hB hk hin KK hK
         refine wp_load_coreK _ rfl w.heap.size 0 _ (eval_tmp (by rw [hk 4 (by kernel_rfl)]; rfl)) (BX4.out _ hB).1 ?_
         exact hK _ _ hB (KeepsC.of_below (Below.refl _ _)) (fact_put (P := isCore x) rfl ⟨_, rfl, (BX4.out _ hB).2⟩)
       refine AllG.cons (k' := 56) rfl ?_ ?_
       · intro _
         intro a' w' hB hk hin KK hK
         obtain ⟨v54, e54, q54⟩ := hin 54 _ 99 rfl rfl ⟨{ on := 54, ground := .data }, by simp, rfl, rfl⟩
         have q54 := fact_get (P := isCore x) rfl q54
         obtain ⟨zs54, r54, hat54⟩ := q54
         subst r54
         unfold Oper.wp execOp
         go_simp
         refine (K.anew_walk hat54).mono ?_
         rintro e wn ⟨zz, rfl, hat, hbn⟩
         exact hK _ _ (hB.trans (hbn.mono hB.size)) (KeepsC.of_below hbn) (fact_put (P := isCore (K.Cr.mk 7 0 0 [x])) rfl ⟨zz, rfl, hat⟩)
       refine AllG.cons (k' := 57) rfl ?_ ?_
       · intro _
         intro a' w' hB hk hin KK hK
         refine wp_load_valK _ rfl (w.heap.size + 2) 0 _ (eval_tmp (by rw [hk 6 (by kernel_rfl)]; rfl)) (BX6.out _ hB).1 ?_
         exact hK _ _ hB (KeepsC.of_below (Below.refl _ _)) (fact_put (P := isVal v) rfl ⟨_, rfl, (BX6.out _ hB).2⟩)
       refine AllG.cons (k' := 58) rfl ?_ ?_
       · intro _
         intro a' w' hB hk hin KK hK
         obtain ⟨v55, e55, q55⟩ := hin 55 _ 100 rfl rfl ⟨{ on := 55, ground := .data }, by simp, rfl, rfl⟩
         have q55 := fact_get (P := isCore (K.Cr.mk 7 0 0 [x])) rfl q55
         obtain ⟨zs55, r55, hat55⟩ := q55
         subst r55
         obtain ⟨v56, e56, q56⟩ := hin 56 _ 101 rfl rfl ⟨{ on := 56, ground := .data }, by simp, rfl, rfl⟩
         have q56 := fact_get (P := isVal v) rfl q56
         obtain ⟨zs56, r56, hat56⟩ := q56
         subst r56
         unfold Oper.wp execOp
         go_simp
         refine (good_eq (b := true) hat55 hat56 ((made_anew B5 v).trans Hp.out)).mono ?_
         rintro e wn ⟨rfl, hbn⟩
         exact hK _ _ (hB.trans (hbn.mono hB.size)) (KeepsC.of_below hbn) (fact_put (P := isEq (.bool true)) rfl rfl)
       refine AllG.cons (k' := 59) rfl ?_ ?_
       · intro _
         intro a' w' hB hk hin KK hK
         have hkk : a'.tmps[9]? = some (.bool true) := (hk 9 (by kernel_rfl)).trans rfl
         have hev := eval_tmp hkk
         unfold Oper.wp execOp
         simp only [hev, Sem.run_pure]
         exact hK _ _ hB (KeepsC.of_below (Below.refl _ _)) (fact_put (P := isEq (.bool true)) rfl rfl)
       refine AllG.cons (k' := 60) rfl ?_ ?_
       · intro _
         intro a' w' hB hk hin KK hK
         obtain ⟨v57, e57, q57⟩ := hin 57 _ 102 rfl rfl ⟨{ on := 57, ground := .data }, by simp, rfl, rfl⟩
         have q57 := fact_get (P := isEq (.bool true)) rfl q57
         have q57' : v57 = .bool true := q57
         subst q57'
         obtain ⟨v58, e58, q58⟩ := hin 58 _ 103 rfl rfl ⟨{ on := 58, ground := .data }, by simp, rfl, rfl⟩
         have q58 := fact_get (P := isEq (.bool true)) rfl q58
         have q58' : v58 = .bool true := q58
         subst q58'
         unfold Oper.wp execOp
         go_simp
         exact hK _ _ hB (KeepsC.of_below (Below.refl _ _)) (fact_put (P := isEq (.bool true)) rfl (by show Value.bool _ = Value.bool _; simp))
       refine AllG.cons (k' := 61) rfl ?_ ?_
       · intro _
         intro a' w' hB hk hin KK hK
         obtain ⟨v59, e59, q59⟩ := hin 53 _ 98 rfl rfl ⟨{ on := 53, ground := .data }, by simp, rfl, rfl⟩
         have q59 := fact_get (P := isEq (.bool true)) rfl q59
         have q59' : v59 = .bool true := q59
         subst q59'
         obtain ⟨v60, e60, q60⟩ := hin 59 _ 104 rfl rfl ⟨{ on := 59, ground := .data }, by simp, rfl, rfl⟩
         have q60 := fact_get (P := isEq (.bool true)) rfl q60
         have q60' : v60 = .bool true := q60
         subst q60'
         unfold Oper.wp execOp
         go_simp
         exact hK _ _ hB (KeepsC.of_below (Below.refl _ _)) (fact_put (P := isEq (.bool true)) rfl rfl)
       refine AllG.cons (k' := 62) rfl ?_ ?_
       · intro _
         intro a' w' hB hk hin KK hK
         obtain ⟨v61, e61, q61⟩ := hin 60 _ 105 rfl rfl ⟨{ on := 60, ground := .data }, by simp, rfl, rfl⟩
         have q61 := fact_get (P := isEq (.bool true)) rfl q61
         have q61' : v61 = .bool true := q61
         subst q61'
         unfold Oper.wp execOp
         go_simp
         exact hK _ _ hB (KeepsC.of_below (Below.refl _ _)) (fact_put (P := isEq (.bool true)) rfl rfl)
       refine AllG.cons (k' := 63) rfl ?_ ?_
       · intro _
         intro a' w' hB hk hin KK hK
         refine wp_load_valK _ rfl b11 0 _ (eval_tmp (by rw [hk 11 (by kernel_rfl)]; rfl)) (BX11.out _ hB).1 ?_
         exact hK _ _ hB (KeepsC.of_below (Below.refl _ _)) (fact_put (P := isVal (Vl.mk 3 0 [v, u])) rfl ⟨_, rfl, (BX11.out _ hB).2⟩)
       refine AllG.cons (k' := 64) rfl ?_ ?_
       · intro _
         intro a' w' hB hk hin KK hK
         obtain ⟨v62, e62, q62⟩ := hin 62 _ 107 rfl rfl ⟨{ on := 62, ground := .data }, by simp, rfl, rfl⟩
         have q62 := fact_get (P := isVal (Vl.mk 3 0 [v, u])) rfl q62
         obtain ⟨zs62, r62, hat62⟩ := q62
         subst r62
         unfold Oper.wp execOp
         go_simp
         refine (len_eq (n := wrap64 (v.meas.1 + u.meas.1)) hat62 (meas_row v u)).mono ?_
         rintro e wn ⟨rfl, hbn⟩
         exact hK _ _ (hB.trans (hbn.mono hB.size)) (KeepsC.of_below hbn) (fact_put (P := isEq (.int .i64 (wrap64 (v.meas.1 + u.meas.1)))) rfl rfl)
       refine AllG.cons (k' := 65) rfl ?_ ?_
       · intro _
         intro a' w' hB hk hin KK hK
         refine wp_load_valK _ rfl (w.heap.size + 2) 0 _ (eval_tmp (by rw [hk 6 (by kernel_rfl)]; rfl)) (BX6.out _ hB).1 ?_
         exact hK _ _ hB (KeepsC.of_below (Below.refl _ _)) (fact_put (P := isVal v) rfl ⟨_, rfl, (BX6.out _ hB).2⟩)
       refine AllG.cons (k' := 66) rfl ?_ ?_
       · intro _
         intro a' w' hB hk hin KK hK
         obtain ⟨v63, e63, q63⟩ := hin 64 _ 109 rfl rfl ⟨{ on := 64, ground := .data }, by simp, rfl, rfl⟩
         have q63 := fact_get (P := isVal v) rfl q63
         obtain ⟨zs63, r63, hat63⟩ := q63
         subst r63
         unfold Oper.wp execOp
         go_simp
         refine (len_eq (n := v.meas.1) hat63 rfl).mono ?_
         rintro e wn ⟨rfl, hbn⟩
         exact hK _ _ (hB.trans (hbn.mono hB.size)) (KeepsC.of_below hbn) (fact_put (P := isEq (.int .i64 (v.meas.1))) rfl rfl)
       refine AllG.cons (k' := 67) rfl ?_ ?_
       · intro _
         intro a' w' hB hk hin KK hK
         refine wp_load_valK _ rfl (w.heap.size + 3) 0 _ (eval_tmp (by rw [hk 7 (by kernel_rfl)]; rfl)) (BX7.out _ hB).1 ?_
         exact hK _ _ hB (KeepsC.of_below (Below.refl _ _)) (fact_put (P := isVal u) rfl ⟨_, rfl, (BX7.out _ hB).2⟩)
       refine AllG.cons (k' := 68) rfl ?_ ?_
       · intro _
         intro a' w' hB hk hin KK hK
         obtain ⟨v64, e64, q64⟩ := hin 66 _ 111 rfl rfl ⟨{ on := 66, ground := .data }, by simp, rfl, rfl⟩
         have q64 := fact_get (P := isVal u) rfl q64
         obtain ⟨zs64, r64, hat64⟩ := q64
         subst r64
         unfold Oper.wp execOp
         go_simp
         refine (len_eq (n := u.meas.1) hat64 rfl).mono ?_
         rintro e wn ⟨rfl, hbn⟩
         exact hK _ _ (hB.trans (hbn.mono hB.size)) (KeepsC.of_below hbn) (fact_put (P := isEq (.int .i64 (u.meas.1))) rfl rfl)
       refine AllG.cons (k' := 69) rfl ?_ ?_
       · intro _
         intro a' w' hB hk hin KK hK
         obtain ⟨v65, e65, q65⟩ := hin 65 _ 110 rfl rfl ⟨{ on := 65, ground := .data }, by simp, rfl, rfl⟩
         have q65 := fact_get (P := isEq (.int .i64 (v.meas.1))) rfl q65
         have q65' : v65 = .int .i64 (v.meas.1) := q65
         subst q65'
         obtain ⟨v66, e66, q66⟩ := hin 67 _ 112 rfl rfl ⟨{ on := 67, ground := .data }, by simp, rfl, rfl⟩
         have q66 := fact_get (P := isEq (.int .i64 (u.meas.1))) rfl q66
         have q66' : v66 = .int .i64 (u.meas.1) := q66
         subst q66'
         unfold Oper.wp execOp
         go_simp
         exact hK _ _ hB (KeepsC.of_below (Below.refl _ _)) (fact_put (P := isEq (.int .i64 (wrap64 (v.meas.1 + u.meas.1)))) rfl (congrArg (Value.int .i64) (IntWalk.i64_left _)))
       refine AllG.cons (k' := 70) rfl ?_ ?_
       · intro _
         intro a' w' hB hk hin KK hK
         obtain ⟨v67, e67, q67⟩ := hin 63 _ 108 rfl rfl ⟨{ on := 63, ground := .data }, by simp, rfl, rfl⟩
         have q67 := fact_get (P := isEq (.int .i64 (wrap64 (v.meas.1 + u.meas.1)))) rfl q67
         have q67' : v67 = .int .i64 (wrap64 (v.meas.1 + u.meas.1)) := q67
         subst q67'
         obtain ⟨v68, e68, q68⟩ := hin 68 _ 113 rfl rfl ⟨{ on := 68, ground := .data }, by simp, rfl, rfl⟩
         have q68 := fact_get (P := isEq (.int .i64 (wrap64 (v.meas.1 + u.meas.1)))) rfl q68
         have q68' : v68 = .int .i64 (wrap64 (v.meas.1 + u.meas.1)) := q68
         subst q68'
         unfold Oper.wp execOp
         go_simp
         exact hK _ _ hB (KeepsC.of_below (Below.refl _ _)) (fact_put (P := isEq (.bool true)) rfl (by show Value.bool _ = Value.bool _; simp))
       refine AllG.cons (k' := 71) rfl ?_ ?_
       · intro _
         intro a' w' hB hk hin KK hK
         obtain ⟨v69, e69, q69⟩ := hin 61 _ 106 rfl rfl ⟨{ on := 61, ground := .data }, by simp, rfl, rfl⟩
         have q69 := fact_get (P := isEq (.bool true)) rfl q69
         have q69' : v69 = .bool true := q69
         subst q69'
         obtain ⟨v70, e70, q70⟩ := hin 69 _ 114 rfl rfl ⟨{ on := 69, ground := .data }, by simp, rfl, rfl⟩
         have q70 := fact_get (P := isEq (.bool true)) rfl q70
         have q70' : v70 = .bool true := q70
         subst q70'
         unfold Oper.wp execOp
         go_simp
         exact hK _ _ hB (KeepsC.of_below (Below.refl _ _)) (fact_put (P := isEq (.bool true)) rfl rfl)
       refine AllG.cons (k' := 72) rfl ?_ ?_
       · intro _
         intro a' w' hB hk hin KK hK
         obtain ⟨v71, e71, q71⟩ := hin 70 _ 115 rfl rfl ⟨{ on := 70, ground := .data }, by simp, rfl, rfl⟩
         have q71 := fact_get (P := isEq (.bool true)) rfl q71
         have q71' : v71 = .bool true := q71
         subst q71'
         unfold Oper.wp execOp
         go_simp
         exact hK _ _ hB (KeepsC.of_below (Below.refl _ _)) (fact_put (P := isEq (.bool true)) rfl rfl)
       exact AllG.nil
     case hend =>
      intro a' w' hB hdef hsz hk hvals
      obtain ⟨v8', hv8', hvt8⟩ := hvals 71 _ 8 rfl rfl
      have hvt8' := fact_get (P := isEq (.bool true)) rfl hvt8
      have hvt28 : v8' = .bool true := hvt8'
      subst hvt28
      have hf8 : a'.tmps.getD 8 undef = .bool true := by rw [Array.getD_eq_getD_getElem?, hv8']; rfl
      have heq := act_eq hdef hsz hk
      refine hMet a' w' (Met.intro (hR a' w' ?_))
      refine ⟨a'.tmps.getD 8 undef, a'.tmps.getD 45 undef, a'.tmps.getD 46 undef, a'.tmps.getD 47 undef, a'.tmps.getD 48 undef, a'.tmps.getD 49 undef, a'.tmps.getD 50 undef, a'.tmps.getD 51 undef, a'.tmps.getD 52 undef, a'.tmps.getD 53 undef, a'.tmps.getD 54 undef, a'.tmps.getD 55 undef, a'.tmps.getD 56 undef, a'.tmps.getD 57 undef, a'.tmps.getD 58 undef, a'.tmps.getD 59 undef, a'.tmps.getD 60 undef, a'.tmps.getD 61 undef, a'.tmps.getD 62 undef, a'.tmps.getD 63 undef, a'.tmps.getD 64 undef, a'.tmps.getD 65 undef, a'.tmps.getD 66 undef, a'.tmps.getD 67 undef, a'.tmps.getD 68 undef, a'.tmps.getD 69 undef, a'.tmps.getD 70 undef, a'.tmps.getD 71 undef, a'.tmps.getD 72 undef, a'.tmps.getD 73 undef, a'.tmps.getD 74 undef, a'.tmps.getD 75 undef, a'.tmps.getD 76 undef, a'.tmps.getD 77 undef, a'.tmps.getD 78 undef, a'.tmps.getD 79 undef, a'.tmps.getD 80 undef, a'.tmps.getD 81 undef, a'.tmps.getD 82 undef, a'.tmps.getD 83 undef, a'.tmps.getD 84 undef, a'.tmps.getD 85 undef, a'.tmps.getD 86 undef, a'.tmps.getD 87 undef, a'.tmps.getD 88 undef, a'.tmps.getD 89 undef, a'.tmps.getD 90 undef, a'.tmps.getD 91 undef, a'.tmps.getD 92 undef, a'.tmps.getD 93 undef, a'.tmps.getD 94 undef, a'.tmps.getD 95 undef, a'.tmps.getD 96 undef, a'.tmps.getD 97 undef, a'.tmps.getD 98 undef, a'.tmps.getD 99 undef, a'.tmps.getD 100 undef, a'.tmps.getD 101 undef, a'.tmps.getD 102 undef, a'.tmps.getD 103 undef, a'.tmps.getD 104 undef, a'.tmps.getD 105 undef, a'.tmps.getD 106 undef, a'.tmps.getD 107 undef, a'.tmps.getD 108 undef, a'.tmps.getD 109 undef, a'.tmps.getD 110 undef, a'.tmps.getD 111 undef, a'.tmps.getD 112 undef, a'.tmps.getD 113 undef, a'.tmps.getD 114 undef, a'.tmps.getD 115 undef, ⟨hf8, hB⟩, heq.trans ?_⟩
      kernel_rfl
    case rest =>
     obtain ⟨rfl, hBc⟩ := hcut
     have Hfin := Lib.hid (HB9.out.trans (hBc.mono HB9.out.size))
     clear hBc
     go_wp2_with fail
     go_ret
     exact ⟨rfl, Hfin.out⟩

end V
end Go.Proofs.Ytddbheoncbphhaa
