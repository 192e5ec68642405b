/- eager.Cmp, Apart, Best, walked for every value that is not too great. -/
import Derived.Test.YtblgjcolmaidlaaEagerMath
import Derived.Test.YtblgjcolmaidlaaHoldKit
import Derived.Deep.DeepCutAuto
import Derived.BigQuiet
namespace Go.Proofs.Ytblgjcolmaidlaa
namespace V
set_option maxRecDepth 100000
open Go.RowKit
/-- not so great that its choices overflow -/
abbrev Fit (x : Vl) : Prop := x.count ≤ 1099511627776
/-- the choices, as a string -/
def putS (x : Vl) : ByteArray := ⟨(toBytes x.put).toArray⟩
theorem putS_nats (x : Vl) : nats (putS x) = x.put := nats_bytes (put_byte x)
theorem putS_size (x : Vl) : (putS x).size = x.put.length := size_nats (putS_nats x)
theorem put_s {v : Vl} {ds : List Value} {w : World} (hv : Vl.at w v ds) (hb : Fit v) :
    Calls Try.prog 18 #[.agg ds.toArray] w fun e w' => e = .returned (.string (putS v)) ∧ Below w.heap.size w w' := by
  refine (put_walk hv (by have := put_le v; have h : v.count ≤ 1099511627776 := hb; unfold most; omega)).mono ?_
  rintro e w3 ⟨⟨t', rfl, ht'⟩, hb⟩
  exact ⟨by rw [of_nats (ht'.trans (putS_nats v).symm)], hb⟩
theorem strcmp_any (s t : ByteArray) (w : World) : Calls Try.prog 19 #[.string s, .string t] w fun e w' => e = .returned (.int .i64 (elex (nats s) (nats t))) ∧ Below w.heap.size w w' := by
  refine (Try.strings_Compare s t w).mono ?_
  rintro e w' ⟨rfl, rfl⟩
  exact ⟨by rw [str_cmp], Below.refl _ _⟩
theorem et3 {a b c : World} (h : Below a.heap.size a b) (h' : Below b.heap.size b c) : Below a.heap.size a c := h.trans (h'.mono h.size)
theorem eat3 {w w' : World} {x : Vl} {cs : List Value} (h : Vl.at w x cs) (hb : Below w.heap.size w w') : Vl.at w' x cs := Vl.at_below hb (Nat.le_refl _) _ _ h
theorem quiet_index_str {o : Oper} {a : Act} {C : World → Prop} {K : Act → Prop} (x y : Operand) (ho : o.op = .index 9 x y) (s : ByteArray) (j : Nat) (c : Nat) (hx : a.eval x = .string s) (hy : a.eval y = .int .i64 (j : Int)) (h : (nats s)[j]? = some c)
    (hK : K (a.put o.dst (.int .u8 (c : Int)))) : o.quiet Try.prog a C K :=
  ⟨.int .u8 (c : Int), fun w _ => by
    obtain ⟨h1, h2⟩ := List.getElem?_eq_some_iff.1 h
    have hs : j < s.size := by rw [← nats_length]; exact h1
    have hi : 0 ≤ (j : Int) ∧ (j : Int) < s.size := ⟨by omega, by omega⟩
    have hr := run_index_string (P := Try.prog) w 9 s .i64 (j : Int) Try.underlying9
    rw [dif_pos hi] at hr
    have hc : (s[((j : Int).toNat)]'(by omega)).toNat = c := by
      have := str_get s j hs h1
      rw [← h2, ← this]
      simp
    rw [hc] at hr
    unfold Oper.quietAt execOp
    simp only [ho, hx, hy, Sem.run_bind, Sem.run_pure, Result.andThen_ok, hr]
    exact ⟨rfl, rfl⟩, hK⟩
set_option maxHeartbeats 8000000 in
theorem eager_cmp (x y : Vl) (cs ds : List Value) (w : World) (hx : Vl.at w x cs) (hy : Vl.at w y ds) (hsx : Fit x) (hsy : Fit y) :
    Calls Try.prog 11 #[.agg cs.toArray, .agg ds.toArray] w fun e w' => e = .returned (.int .i64 (eord x y)) ∧ Below w.heap.size w w' := by
  obtain ⟨W, hW⟩ : ∃ W, W = (w.alloc (.cells cs.toArray 25)).alloc (.cells ds.toArray 25) := ⟨_, rfl⟩
  have hbW : Below w.heap.size w W := by rw [hW]; exact (((Below.refl _ _).alloc (Nat.le_refl _) _).alloc (by simp) _)
  have hsW : W.heap.size = w.heap.size + 2 := by rw [hW]; simp
  have hxx : Val3 W w.heap.size 0 cs := by
    have h := World.alloc_heap_new w (.cells cs.toArray 25)
    rw [hW]
    exact Val3.below (val3_in h (at_len hx)) (B := w.heap.size + 1) (by omega) ((Below.refl _ _).alloc (by first | (simp; done) | (simp; omega)) _)
  have hxy : Val3 W (w.heap.size + 1) 0 ds := by
    have h := World.alloc_heap_new (w.alloc (.cells cs.toArray 25)) (.cells ds.toArray 25)
    rw [World.size_alloc] at h
    rw [hW]
    exact (val3_in h (at_len hy))
  have HXx : Hid (∀ w', Below W.heap.size W w' → Val3 w' w.heap.size 0 cs) := Lib.hid fun w' h => Val3.below hxx (by omega) h
  have HAx : Hid (∀ w', Below W.heap.size W w' → Vl.at w' x cs) := Lib.hid fun w' h => Vl.at_below (hbW.trans (h.mono hbW.size)) (Nat.le_refl _) _ _ hx
  have HXy : Hid (∀ w', Below W.heap.size W w' → Val3 w' (w.heap.size + 1) 0 ds) := Lib.hid fun w' h => Val3.below hxy (by omega) h
  have HAy : Hid (∀ w', Below W.heap.size W w' → Vl.at w' y ds) := Lib.hid fun w' h => Vl.at_below (hbW.trans (h.mono hbW.size)) (Nat.le_refl _) _ _ hy
  have HbW := Lib.hid hbW
  have HsW := Lib.hid hsW
  clear hbW hsW hxx hxy
  have Hpx : Hid (∀ w', Below W.heap.size W w' → Calls Try.prog 18 #[.agg cs.toArray] w' fun e w2 => e = .returned (.string (putS x)) ∧ Below w'.heap.size w' w2) := Lib.hid fun w' h => put_s (HAx.out _ h) hsx
  have Hpy : Hid (∀ w', Below W.heap.size W w' → Calls Try.prog 18 #[.agg ds.toArray] w' fun e w2 => e = .returned (.string (putS y)) ∧ Below w'.heap.size w' w2) := Lib.hid fun w' h => put_s (HAy.out _ h) hsy
  have Hcmp : Hid (∀ w', Below W.heap.size W w' → Calls Try.prog 19 #[.string (putS x), .string (putS y)] w' fun e w2 => e = .returned (.int .i64 (eord x y)) ∧ Below w'.heap.size w' w2) := Lib.hid fun w' h => by have h := strcmp_any (putS x) (putS y) w'; rw [putS_nats, putS_nats] at h; exact h
  generalize eord x y = O at *
  generalize putS x = tx at *
  generalize putS y = ty at *
  obtain ⟨k1, z1, a1, len1, cap1, rfl⟩ := at_lit hx
  obtain ⟨k2, z2, a2, len2, cap2, rfl⟩ := at_lit hy
  clear hx hy hsx hsy
  go_enter Try.func11, Try.ntmps11
  go_upto_region 1 with fail
  rw [← hW]
  clear hW
  refine wp_region_later (W0 := W) (Below.refl _ _) (by kernel_rfl) (by as_aux_lemma => kernel_rfl) ?_
  (go_big_quiet_want; refine quiet_load_val _ rfl w.heap.size 0 [.int .i64 k1, .int .u8 z1, .slice a1 len1 cap1] rfl (fun w' hw' => by obtain ⟨L, rfl⟩ := hw'; exact HXx.out _ L.ok) ?_; go_big_quiet_on; try simp only [Act.put, List.setIfInBounds_toArray, List.set_cons_zero, List.set_cons_succ])
  go_big_quiet_step (exact Later.calls (Hpx.out _ (Later.ok _)))
  (go_big_quiet_want; refine quiet_load_val _ rfl (w.heap.size + 1) 0 [.int .i64 k2, .int .u8 z2, .slice a2 len2 cap2] rfl (fun w' hw' => by obtain ⟨L, rfl⟩ := hw'; exact HXy.out _ L.ok) ?_; go_big_quiet_on; try simp only [Act.put, List.setIfInBounds_toArray, List.set_cons_zero, List.set_cons_succ])
  go_big_quiet_step (exact Later.calls (Hpy.out _ (Later.ok _)))
  go_big_quiet_step (exact Later.calls (Hcmp.out _ (Later.ok _)))
  go_big_quiet_step (exact rfl)
  refine wpQuiet_nil ?_
  intro w' hw'
  obtain ⟨L', rfl⟩ := hw'
  go_step
  go_step
  go_wp2_with fail
  go_ret
  exact ⟨rfl, HbW.out.trans (L'.ok.mono HbW.out.size)⟩
set_option maxHeartbeats 16000000 in
theorem eager_apart (x y : Vl) (cs ds : List Value) (w : World) (hx : Vl.at w x cs) (hy : Vl.at w y ds) (hsx : Fit x) (hsy : Fit y) :
    Calls Try.prog 12 #[.agg cs.toArray, .agg ds.toArray] w fun e w' => e = .returned (.int .i64 (eapart x y)) ∧ Below w.heap.size w w' := by
  obtain ⟨W, hW⟩ : ∃ W, W = (w.alloc (.cells cs.toArray 25)).alloc (.cells ds.toArray 25) := ⟨_, rfl⟩
  have hbW : Below w.heap.size w W := by rw [hW]; exact (((Below.refl _ _).alloc (Nat.le_refl _) _).alloc (by simp) _)
  have hsW : W.heap.size = w.heap.size + 2 := by rw [hW]; simp
  have hxx : Val3 W w.heap.size 0 cs := by
    have h := World.alloc_heap_new w (.cells cs.toArray 25)
    rw [hW]
    exact Val3.below (val3_in h (at_len hx)) (B := w.heap.size + 1) (by omega) ((Below.refl _ _).alloc (by first | (simp; done) | (simp; omega)) _)
  have hxy : Val3 W (w.heap.size + 1) 0 ds := by
    have h := World.alloc_heap_new (w.alloc (.cells cs.toArray 25)) (.cells ds.toArray 25)
    rw [World.size_alloc] at h
    rw [hW]
    exact (val3_in h (at_len hy))
  have HXx : Hid (∀ w', Below W.heap.size W w' → Val3 w' w.heap.size 0 cs) := Lib.hid fun w' h => Val3.below hxx (by omega) h
  have HAx : Hid (∀ w', Below W.heap.size W w' → Vl.at w' x cs) := Lib.hid fun w' h => Vl.at_below (hbW.trans (h.mono hbW.size)) (Nat.le_refl _) _ _ hx
  have HXy : Hid (∀ w', Below W.heap.size W w' → Val3 w' (w.heap.size + 1) 0 ds) := Lib.hid fun w' h => Val3.below hxy (by omega) h
  have HAy : Hid (∀ w', Below W.heap.size W w' → Vl.at w' y ds) := Lib.hid fun w' h => Vl.at_below (hbW.trans (h.mono hbW.size)) (Nat.le_refl _) _ _ hy
  have HbW := Lib.hid hbW
  have HsW := Lib.hid hsW
  clear hbW hsW hxx hxy
  have Hpx : Hid (∀ w', Below W.heap.size W w' → Calls Try.prog 18 #[.agg cs.toArray] w' fun e w2 => e = .returned (.string (putS x)) ∧ Below w'.heap.size w' w2) := Lib.hid fun w' h => put_s (HAx.out _ h) hsx
  have Hpy : Hid (∀ w', Below W.heap.size W w' → Calls Try.prog 18 #[.agg ds.toArray] w' fun e w2 => e = .returned (.string (putS y)) ∧ Below w'.heap.size w' w2) := Lib.hid fun w' h => put_s (HAy.out _ h) hsy
  have HN : Hid (nats (putS x) = x.put ∧ nats (putS y) = y.put) := Lib.hid ⟨putS_nats x, putS_nats y⟩
  have HL : Hid ((nats (putS x)).length = (putS x).size ∧ (nats (putS y)).length = (putS y).size) := Lib.hid ⟨nats_length _, nats_length _⟩
  have HE : Hid (((putS x).toList == (putS y).toList) = decide (nats (putS x) = nats (putS y))) := Lib.hid (eq_list _ _)
  rw [show eapart x y = apartL (nats (putS x)) (nats (putS y)) from by rw [putS_nats, putS_nats]]
  have hbx : (putS x).size ≤ 1152921504606846976 := by rw [putS_size]; have := put_le x; have h : x.count ≤ 1099511627776 := hsx; omega
  have hby : (putS y).size ≤ 1152921504606846976 := by rw [putS_size]; have := put_le y; have h : y.count ≤ 1099511627776 := hsy; omega
  clear HN
  generalize putS x = tx at *
  generalize putS y = ty at *
  obtain ⟨k1, z1, a1, len1, cap1, rfl⟩ := at_lit hx
  obtain ⟨k2, z2, a2, len2, cap2, rfl⟩ := at_lit hy
  clear hx hy hsx hsy
  by_cases heq : nats tx = nats ty
  · have e1 : (tx.toList == ty.toList) = true := by rw [HE.out, decide_eq_true heq]
    have HR : Hid (apartL (nats tx) (nats ty) = -1) := Lib.hid (apartL_iff.2 heq)
    clear heq hbx hby
    go_enter Try.func12, Try.ntmps12
    go_upto_region 1 with fail
    rw [← hW]
    clear hW
    refine wp_region_later (W0 := W) (Below.refl _ _) (by kernel_rfl) (by as_aux_lemma => kernel_rfl) ?_
    (go_big_quiet_want; refine quiet_load_val _ rfl w.heap.size 0 [.int .i64 k1, .int .u8 z1, .slice a1 len1 cap1] rfl (fun w' hw' => by obtain ⟨L, rfl⟩ := hw'; exact HXx.out _ L.ok) ?_; go_big_quiet_on; try simp only [Act.put, List.setIfInBounds_toArray, List.set_cons_zero, List.set_cons_succ])
    go_big_quiet_step (exact Later.calls (Hpx.out _ (Later.ok _)))
    (go_big_quiet_want; refine quiet_load_val _ rfl (w.heap.size + 1) 0 [.int .i64 k2, .int .u8 z2, .slice a2 len2 cap2] rfl (fun w' hw' => by obtain ⟨L, rfl⟩ := hw'; exact HXy.out _ L.ok) ?_; go_big_quiet_on; try simp only [Act.put, List.setIfInBounds_toArray, List.set_cons_zero, List.set_cons_succ])
    go_big_quiet_step (exact Later.calls (Hpy.out _ (Later.ok _)))
    go_big_quiet_step (exact rfl)
    go_big_quiet_step (exact rfl)
    refine wpQuiet_nil ?_
    intro w' hw'
    obtain ⟨L', rfl⟩ := hw'
    have Hb2 := Lib.hid L'.ok
    generalize L'.val = W2 at Hb2 ⊢
    clear L'
    go_step
    go_step
    go_wp2_with fail
    go_ret
    exact ⟨congrArg (fun z => Ending.returned (.int .i64 z)) HR.out.symm, HbW.out.trans (Hb2.out.mono HbW.out.size)⟩
  have e1 : (tx.toList == ty.toList) = false := by rw [HE.out, decide_eq_false heq]
  have HR : Hid (apartL (nats tx) (nats ty) = (eapt (nats tx) (nats ty) : Int)) := Lib.hid (by unfold apartL; rw [if_neg heq])
  obtain ⟨n, hn⟩ : ∃ n, n = min tx.size ty.size := ⟨_, rfl⟩
  have hmin : min (tx.size : Int) (ty.size : Int) = (n : Int) := by omega
  have HEnd : Hid ((nats tx).take n = (nats ty).take n → eapt (nats tx) (nats ty) = n) := Lib.hid fun h => by
    have h1 := HL.out
    have h2 := eapt_end (nats tx) (nats ty) (by rw [h1.1, h1.2, ← hn]; exact h)
    rw [h2, h1.1, h1.2, hn]
  have HNl : Hid (n ≤ (nats tx).length ∧ n ≤ (nats ty).length) := Lib.hid (by have := HL.out; omega)
  have hnb : (n : Int) ≤ 1152921504606846976 := by omega
  clear heq HE hn hbx hby
  go_enter Try.func12, Try.ntmps12
  go_upto_region 1 with fail
  rw [← hW]
  clear hW
  refine wp_region_later (W0 := W) (Below.refl _ _) (by kernel_rfl) (by as_aux_lemma => kernel_rfl) ?_
  (go_big_quiet_want; refine quiet_load_val _ rfl w.heap.size 0 [.int .i64 k1, .int .u8 z1, .slice a1 len1 cap1] rfl (fun w' hw' => by obtain ⟨L, rfl⟩ := hw'; exact HXx.out _ L.ok) ?_; go_big_quiet_on; try simp only [Act.put, List.setIfInBounds_toArray, List.set_cons_zero, List.set_cons_succ])
  go_big_quiet_step (exact Later.calls (Hpx.out _ (Later.ok _)))
  (go_big_quiet_want; refine quiet_load_val _ rfl (w.heap.size + 1) 0 [.int .i64 k2, .int .u8 z2, .slice a2 len2 cap2] rfl (fun w' hw' => by obtain ⟨L, rfl⟩ := hw'; exact HXy.out _ L.ok) ?_; go_big_quiet_on; try simp only [Act.put, List.setIfInBounds_toArray, List.set_cons_zero, List.set_cons_succ])
  go_big_quiet_step (exact Later.calls (Hpy.out _ (Later.ok _)))
  go_big_quiet_step (exact rfl)
  go_big_quiet_step (exact rfl)
  refine wpQuiet_nil ?_
  intro w' hw'
  obtain ⟨L', rfl⟩ := hw'
  have Hb2 := Lib.hid L'.ok
  generalize L'.val = W2 at Hb2 ⊢
  clear L'
  go_step
  go_step
  go_wp2_with fail
  clear hmin
  go_loopw [22] (fun i wr => ∃ j : Nat, i = .int .i64 j ∧ Hid (j ≤ n ∧ (nats tx).take j = (nats ty).take j) ∧ Hid (Below W2.heap.size W2 wr)) (fun i _ => n - (intOf i).toNat)
  case atStart => exact ⟨0, rfl, Lib.hid ⟨Nat.zero_le _, rfl⟩, Lib.hid (Below.refl _ _)⟩
  case round =>
    obtain ⟨j, rfl, hj, hB⟩ := hrel
    by_cases hjn : j < n
    · have hdj : decide ((j : Int) < n) = true := by simp; omega
      have hjx : j < (nats tx).length := by have := HNl.out; omega
      have hjy : j < (nats ty).length := by have := HNl.out; omega
      have hgx : Hid ((nats tx)[j]? = some (nats tx)[j]) := Lib.hid (List.getElem?_eq_getElem hjx)
      have hgy : Hid ((nats ty)[j]? = some (nats ty)[j]) := Lib.hid (List.getElem?_eq_getElem hjy)
      have hst := Lib.hid (eapt_step j (nats tx) (nats ty) hjx hjy hj.out.2)
      generalize (nats tx)[j] = cx at hgx hst
      generalize (nats ty)[j] = cy at hgy hst
      clear hjx hjy
      by_cases hc : cx = cy
      · have ec : ((cx : Int) != (cy : Int)) = false := by simp [hc]
        have ec2 : (cx != cy) = false := by simp [hc]
        have HT := Lib.hid (hst.out.1 hc)
        clear hc hst
        go_upto_region 8 with fail
        refine wp_region_later (W0 := wr) (Below.refl _ _) (by kernel_rfl) (by as_aux_lemma => kernel_rfl) ?_
        go_big_quiet_step (exact rfl)
        go_big_quiet_step (exact rfl)
        (go_big_quiet_want; refine quiet_index_str _ _ rfl tx j cx rfl rfl hgx.out ?_; go_big_quiet_on; try simp only [Act.put, List.setIfInBounds_toArray, List.set_cons_zero, List.set_cons_succ])
        go_big_quiet_step (exact rfl)
        go_big_quiet_step (exact rfl)
        (go_big_quiet_want; refine quiet_index_str _ _ rfl ty j cy rfl rfl hgy.out ?_; go_big_quiet_on; try simp only [Act.put, List.setIfInBounds_toArray, List.set_cons_zero, List.set_cons_succ])
        go_big_quiet_step (exact rfl)
        refine wpQuiet_nil ?_
        intro w' hw'
        obtain ⟨L', rfl⟩ := hw'
        go_step
        go_step
        go_wp2_with fail
        go_roundw
        case rel => exact ⟨j + 1, by go_num, Lib.hid ⟨by omega, HT.out⟩, Lib.hid (et3 hB.out L'.ok)⟩
        case measure => simp [intOf]; omega
      · have ec : ((cx : Int) != (cy : Int)) = true := by simp; omega
        have ec2 : (cx != cy) = true := by simp [hc]
        have HT := Lib.hid (hst.out.2 hc)
        clear hc hst
        go_upto_region 8 with fail
        refine wp_region_later (W0 := wr) (Below.refl _ _) (by kernel_rfl) (by as_aux_lemma => kernel_rfl) ?_
        go_big_quiet_step (exact rfl)
        go_big_quiet_step (exact rfl)
        (go_big_quiet_want; refine quiet_index_str _ _ rfl tx j cx rfl rfl hgx.out ?_; go_big_quiet_on; try simp only [Act.put, List.setIfInBounds_toArray, List.set_cons_zero, List.set_cons_succ])
        go_big_quiet_step (exact rfl)
        go_big_quiet_step (exact rfl)
        (go_big_quiet_want; refine quiet_index_str _ _ rfl ty j cy rfl rfl hgy.out ?_; go_big_quiet_on; try simp only [Act.put, List.setIfInBounds_toArray, List.set_cons_zero, List.set_cons_succ])
        go_big_quiet_step (exact rfl)
        refine wpQuiet_nil ?_
        intro w' hw'
        obtain ⟨L', rfl⟩ := hw'
        go_step
        go_step
        go_wp2_with fail
        go_ret
        exact ⟨congrArg (fun z => Ending.returned (.int .i64 z)) (HR.out.trans (congrArg (fun z : Nat => (z : Int)) HT.out)).symm, HbW.out.trans ((et3 Hb2.out (et3 hB.out L'.ok)).mono HbW.out.size)⟩
    · obtain rfl : j = n := by have := hj.out; omega
      have hdj : decide ((j : Int) < j) = false := by simp
      have HT := Lib.hid (HEnd.out hj.out.2)
      go_wp2_with fail
      go_ret
      exact ⟨congrArg (fun z => Ending.returned (.int .i64 z)) (HR.out.trans (congrArg (fun z : Nat => (z : Int)) HT.out)).symm, HbW.out.trans ((et3 Hb2.out hB.out).mono HbW.out.size)⟩
set_option maxHeartbeats 4000000 in
theorem ebest_empty (w : World) (a : Option Addr) (c : Nat) : Calls Try.prog 9 #[.slice a 0 c] w fun e w' => e = .returned (.tuple #[.int .i64 0, .bool false]) ∧ Below w.heap.size w w' := by
  go_enter Try.func9, Try.ntmps9
  go_wp2_with fail
  go_ret2
  exact ⟨rfl, Below.refl _ _⟩
set_option maxHeartbeats 16000000 in
theorem ebest_some {l : List Vl} {v : Value} {w : World} (h0 : 0 < l.length) (hs : ∀ x ∈ l, Fit x) (hl : ListAt w l v) : Calls Try.prog 9 #[v] w fun e w' => e = .returned (.tuple #[.int .i64 (ebst (l.map Vl.put) (l.length - 1) : Nat), .bool true]) ∧ Below w.heap.size w w' := by
  have hl0 := hl
  obtain ⟨a1, c1, rfl, hmax1, hl1⟩ := hl
  obtain ⟨n, hn⟩ : ∃ n, n = l.length := ⟨_, rfl⟩
  rw [← hn] at hl1 hl0 hmax1 h0 ⊢
  have hi1 : (n : Int) ≤ 9223372036854775807 := by unfold maxLen at hmax1; omega
  obtain ⟨b0, off0, rfl, hcap0, hbw0, hv0⟩ := hl1.resolve_left (by omega)
  have hcapI : (n : Int) ≤ c1 := by omega
  obtain ⟨P, hP⟩ : ∃ P, P = l.map Vl.put := ⟨_, rfl⟩
  have HP := Lib.hid hP
  rw [← hP]
  obtain ⟨bz, hbz⟩ : ∃ bz, bz = ebst P (n - 1) := ⟨_, rfl⟩
  rw [← hbz]
  have HZ := Lib.hid hbz
  clear hbz
  have e0 : ((n : Int) == 0) = false := by simp; omega
  have e1 : (n == 0) = false := by simp; omega
  have e2 : decide ((0 : Int) < n) = true := by simp; omega
  have HG : Hid (∀ (j : Nat) (hj : j < l.length), P.getD j [] = (l[j]).put) := Lib.hid fun j hj => by rw [hP, List.getD_eq_getElem?_getD, List.getElem?_map, List.getElem?_eq_getElem hj]; rfl
  have HV : Hid (∀ (j : Nat) (hj : j < l.length), ∃ ds : List Value, Val3 w b0 (off0 + j * 3) ds ∧ Vl.at w l[j] ds) := Lib.hid fun j hj => vals_get _ b0 l off0 hv0 j hj
  have HN := Lib.hid hn
  have Hs := Lib.hid hs
  have Hbw := Lib.hid hbw0
  obtain ⟨ds0, hc0, hat0⟩ := HV.out 0 (by omega)
  have hc0' : Val3 w b0 off0 ds0 := by simpa using hc0
  have Hcall := Lib.hid (put_s hat0 (Hs.out l[0] (List.getElem_mem (by omega))))
  have HT0 : Hid (nats (putS l[0]) = P.getD 0 []) := Lib.hid (by rw [putS_nats, HG.out 0 (by omega)])
  generalize putS l[0] = t0 at *
  obtain ⟨k3, z3, a3, len3, cap3, rfl⟩ := at_lit hat0
  clear hP hn hs hbw0 hl0 hl1 hmax1 hv0 hcap0 hc0 hat0
  go_enter Try.func9, Try.ntmps9
  go_wp2_with (first
    | (refine wpList_load_val rfl _ rfl b0 off0 _ rfl hc0' ?_)
    | fail)
  refine Hcall.out.mono ?_
  rintro e w1 ⟨rfl, hb1⟩
  have Hb1 := Lib.hid hb1
  clear hb1 Hcall hc0'
  go_wp2_with fail
  go_loopw [4, 5, 6] (fun bv sv i wr => ∃ (j : Nat) (t : ByteArray), i = .int .i64 (j + 1 : Nat) ∧ bv = .int .i64 (ebst P j : Nat) ∧ sv = .string t ∧ Hid (j < n ∧ nats t = P.getD (ebst P j) []) ∧ Hid (Below w.heap.size w wr)) (fun _ _ i _ => n - (intOf i).toNat)
  case atStart => exact ⟨0, t0, rfl, rfl, rfl, Lib.hid ⟨h0, HT0.out⟩, Hb1⟩
  case round =>
    obtain ⟨j, t, rfl, rfl, rfl, hj, hB⟩ := hrel
    have hst : ebst P (j + 1) = if elex (P.getD (j + 1) []) (P.getD (ebst P j) []) < 0 then j + 1 else ebst P j := rfl
    obtain ⟨j1, hj1⟩ : ∃ j1, j1 = j + 1 := ⟨_, rfl⟩
    rw [← hj1] at hst ⊢
    by_cases hjn : j1 < n
    · have hdj : decide ((j1 : Int) < n) = true := by simp; omega
      have hjl : j1 < l.length := by have := HN.out; omega
      obtain ⟨ds1, hc1, hat1⟩ := HV.out j1 hjl
      have h9 : Val3 wr b0 (off0 + j1 * 3) ds1 := hc1.below Hbw.out hB.out
      have Hcall := Lib.hid (put_s (eat3 hat1 hB.out) (Hs.out l[j1] (List.getElem_mem hjl)))
      have hnt : nats (putS l[j1]) = P.getD j1 [] := by rw [putS_nats, HG.out j1 hjl]
      have hls : Op.bytesLess (putS l[j1]).toList t.toList = decide (elex (P.getD j1 []) (P.getD (ebst P j) []) < 0) := by rw [str_less, hnt, hj.out.2]
      generalize putS l[j1] = t1 at *
      obtain ⟨k3, z3, a3, len3, cap3, rfl⟩ := at_lit hat1
      clear hc1 hat1 hjl
      by_cases ho : elex (P.getD j1 []) (P.getD (ebst P j) []) < 0
      · rw [if_pos ho] at hst
        rw [decide_eq_true ho] at hls
        have HS := Lib.hid (And.intro hst hnt)
        have HJ := Lib.hid hj1
        clear ho hst hnt hj1
        generalize ebst P j = bj at *
        go_wp2_with (first
          | (refine wpList_load_val rfl _ rfl b0 (off0 + j1 * 3) _ rfl h9 ?_)
          | fail)
        refine Hcall.out.mono ?_
        rintro e w2 ⟨rfl, hb2⟩
        have Hb2 := Lib.hid (et3 hB.out hb2)
        clear hb2 Hcall h9
        go_wp2_with fail
        go_roundw
        case rel => exact ⟨j1, t1, by go_num, by rw [HS.out.1], rfl, Lib.hid ⟨hjn, by rw [HS.out.1]; exact HS.out.2⟩, Hb2⟩
        case measure => simp [intOf]; omega
      · rw [if_neg ho] at hst
        rw [decide_eq_false ho] at hls
        have HS := Lib.hid (And.intro hst hj.out.2)
        have HJ := Lib.hid hj1
        clear ho hst hnt hj1
        generalize ebst P j = bj at *
        go_wp2_with (first
          | (refine wpList_load_val rfl _ rfl b0 (off0 + j1 * 3) _ rfl h9 ?_)
          | fail)
        refine Hcall.out.mono ?_
        rintro e w2 ⟨rfl, hb2⟩
        have Hb2 := Lib.hid (et3 hB.out hb2)
        clear hb2 Hcall h9
        go_wp2_with fail
        go_roundw
        case rel => exact ⟨j1, t, by go_num, by rw [HS.out.1], rfl, Lib.hid ⟨hjn, by rw [HS.out.1]; exact HS.out.2⟩, Hb2⟩
        case measure => simp [intOf]; omega
    · have hdj : decide ((j1 : Int) < n) = false := by simp; omega
      have hjj : n - 1 = j := by have := hj.out.1; omega
      have HZ2 : Hid (ebst P j = bz) := Lib.hid (by rw [HZ.out, hjj])
      clear hst hj1 hjj
      generalize ebst P j = bj at *
      go_wp2_with fail
      go_ret2
      exact ⟨by rw [HZ2.out]; rfl, hB.out⟩
end V
end Go.Proofs.Ytblgjcolmaidlaa
