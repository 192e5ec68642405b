/- value.formed, belongs, allBelong, Good, walked for every value and every good core. -/
import Derived.Test.YtonhmjfopidacaaDoorValOps
import Derived.Test.YtonhmjfopidacaaDoorCoreGood
import Derived.Test.YtonhmjfopidacaaDoorCoreKit
import Derived.Test.YtonhmjfopidacaaDoorLater
import Derived.Test.YtonhmjfopidacaaDoorSetAll
import Derived.Deep.LoopGhost
import Derived.Deep.DeepCutAuto
namespace Go.Proofs.YtonhmjfopidacaaDoor
namespace V
set_option maxRecDepth 100000
open Go.RowKit
set_option maxHeartbeats 4000000 in
theorem formed_walk (k : Int) (z : Nat) (a : Option Addr) (len cap : Nat) (w : World) :
    Calls Tryd.prog 64 #[.agg #[.int .i64 k, .int .u8 z, .slice a len cap]] w fun e w' => e = .returned (.bool (formV k z len)) ∧ Below w.heap.size w w' := by
  have hl0 : ((len : Int) == 0) = decide (len = 0) := by rw [Bool.eq_iff_iff]; simp
  have hl1 : ((len : Int) == 1) = decide (len = 1) := by rw [Bool.eq_iff_iff, beq_iff_eq, decide_eq_true_eq]; omega
  have hl2 : ((len : Int) == 2) = decide (len = 2) := by rw [Bool.eq_iff_iff, beq_iff_eq, decide_eq_true_eq]; omega
  have hz : ((z : Int) == 0) = decide (z = 0) := by rw [Bool.eq_iff_iff]; simp
  unfold formV
  generalize decide (len = 0) = b0 at *
  generalize decide (len = 1) = b1 at *
  generalize decide (len = 2) = b2 at *
  generalize decide (z = 0) = bz at *
  have hz' : ((z : Int) != 0) = !bz := by simp [bne, hz]
  by_cases h2 : k = 2
  · subst h2
    rw [if_pos (by decide)]
    go_enter Tryd.func64, Tryd.ntmps64
    go_wp2_with fail
    go_ret
    exact ⟨rfl, K.alloc_below w _⟩
  have e2 : (k == 2) = false := by simp [h2]
  have e2' : (k != 2) = true := by simp [h2]
  rw [e2, Bool.false_or]
  cases bz with
  | false =>
    rw [Bool.false_and]
    clear h2
    go_enter Tryd.func64, Tryd.ntmps64
    go_wp2_with fail
    go_ret
    exact ⟨rfl, K.alloc_below w _⟩
  | true =>
    rw [Bool.true_and]
    by_cases h1 : k = 1
    · subst h1
      rw [if_pos (by decide)]
      clear h2
      go_enter Tryd.func64, Tryd.ntmps64
      go_wp2_with fail
      go_ret
      exact ⟨rfl, K.alloc_below w _⟩
    by_cases h3 : k = 3
    · subst h3
      rw [if_neg (by decide), if_pos rfl]
      clear h2 h1
      go_enter Tryd.func64, Tryd.ntmps64
      go_wp2_with fail
      go_ret
      exact ⟨rfl, K.alloc_below w _⟩
    by_cases h4 : k = 4 ∨ k = 5 ∨ k = 7
    · rw [if_neg (by omega), if_neg h3, if_pos h4]
      clear h2 h1 h3 e2 e2'
      rcases h4 with rfl | rfl | rfl <;> (
        go_enter Tryd.func64, Tryd.ntmps64
        go_wp2_with fail
        go_ret
        exact ⟨rfl, K.alloc_below w _⟩)
    · rw [if_neg (by omega), if_neg h3, if_neg h4]
      have e1 : (k == 1) = false := by simp [h1]
      have e3 : (k == 3) = false := by simp [h3]
      have e4 : (k == 4) = false := by simp; omega
      have e5 : (k == 5) = false := by simp; omega
      have e7 : (k == 7) = false := by simp; omega
      have e6 : (k == 6) = decide (k = 6) := by rw [Bool.eq_iff_iff]; simp
      clear h1 h2 h3 h4
      generalize decide (k = 6) = b6 at *
      go_enter Tryd.func64, Tryd.ntmps64
      go_wp2_with fail
      go_ret
      exact ⟨rfl, K.alloc_below w _⟩


set_option maxHeartbeats 4000000 in
theorem all_any {c : K.Cr} {cs : List Value} {w0 : World} (hc : K.Cr.at w0 c cs) (m : Nat)
    (ih : ∀ (v : Vl) (ds : List Value) (w : World), v.count ≤ m → Vl.at w v ds → K.Cr.at w c cs → Calls Tryd.prog 48 #[.agg ds.toArray, .agg cs.toArray] w fun e w' => e = .returned (.bool (bel c v)) ∧ Below w.heap.size w w')
    (L : List Vl) (u : Value) (hL : ListAt w0 L u) (hm : counts L ≤ m) :
    Calls Tryd.prog 66 #[u, .agg cs.toArray] w0 fun e w' => e = .returned (.bool (L.all (bel c))) ∧ Below w0.heap.size w0 w' := by
  obtain ⟨a, cap, rfl, hmax, hl⟩ := hL
  have hbox : K.Core7 (w0.alloc (.cells cs.toArray 28)) w0.heap.size 0 cs := K.core7_in (World.alloc_heap_new w0 _) (K.at_len hc)
  have hc1 := hc
  obtain ⟨k, s, n, ac, lenc, capc, rfl⟩ := K.at_lit hc1
  clear hc1
  have hmx : (L.length : Int) ≤ 9223372036854775807 := by unfold maxLen at hmax; omega
  obtain ⟨R, hR⟩ : ∃ R, R = L.all (bel c) := ⟨_, rfl⟩
  rw [← hR]
  have HR := Lib.hid hR
  have Hih := Lib.hid ih
  have Hc := Lib.hid hc
  have Hl := Lib.hid hl
  clear hR ih hc hl hmax
  go_enter Tryd.func66, Tryd.ntmps66
  go_wp2_with fail
  go_loopw [9] (fun i wr => ∃ j : Nat, i = .int .i64 j ∧ j ≤ L.length ∧ Hid ((L.take j).all (bel c) = true) ∧ Hid (Below (w0.heap.size + 1) (w0.alloc (.cells #[.int .i64 k, .int .u64 (word s 0), .int .u64 (word s 1), .int .u64 (word s 2), .int .u64 (word s 3), .int .i64 n, .slice ac lenc capc] 28)) wr)) (fun i _ => L.length - (intOf i).toNat)
  case atStart => exact ⟨0, rfl, Nat.zero_le _, Lib.hid rfl, Lib.hid (Below.refl _ _)⟩
  case round =>
    obtain ⟨j, rfl, hj, hno, hr⟩ := hrel
    have hB : Below w0.heap.size w0 wr := (K.alloc_below w0 _).trans (hr.out.mono (Nat.le_succ _))
    have hbx := (hbox.1 : _)
    have hb7 : K.Core7 wr w0.heap.size 0 [.int .i64 k, .int .u64 (word s 0), .int .u64 (word s 1), .int .u64 (word s 2), .int .u64 (word s 3), .int .i64 n, .slice ac lenc capc] := ⟨rfl, fun q hq => by rw [hr.out.cell (p := ⟨w0.heap.size, 0 + q, none⟩) (by simp)]; exact hbox.2 q hq⟩
    by_cases hjl : j < L.length
    · have hdj : decide ((j : Int) < L.length) = true := by simp; omega
      rcases Hl.out with hl0 | ⟨b, off, ha, hcap, hbw, hnodes⟩
      · omega
      · subst ha
        obtain ⟨ds, hcell, hchild⟩ := vals_get _ b L off hnodes j hjl
        have h9 : Val3 wr b (off + j * 3) ds := hcell.below hbw hB
        have h10 : Val3 (wr.alloc (.cells ds.toArray 39)) wr.heap.size 0 ds := val3_in (World.alloc_heap_new wr (.cells ds.toArray 39)) (at_len hchild)
        have hw0r : w0.heap.size < wr.heap.size := by have := hr.out.size; simp at this; omega
        have hb8 : K.Core7 (wr.alloc (.cells ds.toArray 39)) w0.heap.size 0 [.int .i64 k, .int .u64 (word s 0), .int .u64 (word s 1), .int .u64 (word s 2), .int .u64 (word s 3), .int .i64 n, .slice ac lenc capc] := ⟨rfl, fun q hq => by rw [(K.alloc_below wr _).cell (p := ⟨w0.heap.size, 0 + q, none⟩) hw0r]; exact hb7.2 q hq⟩
        have hBa := hB.trans ((K.alloc_below wr (.cells ds.toArray 39)).mono hB.size)
        have hcall := Hih.out L[j] ds (wr.alloc (.cells ds.toArray 39)) (Nat.le_trans (counts_mem (List.getElem_mem hjl)) hm) (Vl.at_below hBa (Nat.le_refl _) _ _ hchild) (K.Cr.at_below hBa (Nat.le_refl _) _ _ Hc.out)
        have hstep : (L.take (j + 1)).all (bel c) = bel c L[j] := by
          rw [List.take_succ_eq_append_getElem hjl, List.all_append, hno.out]; simp
        have hany : bel c L[j] = false → L.all (bel c) = false := fun h => by
          rw [← Bool.not_eq_true, List.all_eq_true]
          intro hh
          rw [hh L[j] (List.getElem_mem hjl)] at h
          cases h
        generalize bel c L[j] = hv at hcall hstep hany
        have hds1 := at_lit hchild
        obtain ⟨k1, z1, a1, len1, cap1, rfl⟩ := hds1
        have Hstep := Lib.hid hstep
        have Hany := Lib.hid hany
        have HBa := Lib.hid hBa
        have Hmn := Lib.hid (K.alloc_below wr (.cells [.int .i64 k1, .int .u8 z1, .slice a1 len1 cap1].toArray 39))
        clear hcell hchild hnodes hstep hany hB hbx hbox hb7 hBa
        cases hv with
        | true =>
          go_wp2_with (first
            | (refine wpList_load_val rfl _ rfl b (off + j * 3) _ rfl h9 ?_)
            | (refine wpList_load_val rfl _ rfl wr.heap.size 0 _ rfl h10 ?_)
            | (refine K.wpList_load_core rfl _ rfl w0.heap.size 0 _ rfl hb8 ?_)
            | (go_at_call 48; refine hcall.mono ?_; rintro e w3 ⟨rfl, hb3⟩; have Hb3 := Lib.hid hb3; clear hb3)
            | fail)
          go_roundw
          case rel => exact ⟨j + 1, by go_num, by omega, Lib.hid Hstep.out, Lib.hid (hr.out.trans ((Hmn.out.trans (Hb3.out.mono (by simp))).mono (by omega)))⟩
          case measure => simp [intOf]; omega
        | false =>
          have hRf : R = false := by rw [HR.out]; exact Hany.out rfl
          clear HR Hany
          subst hRf
          go_wp2_with (first
            | (refine wpList_load_val rfl _ rfl b (off + j * 3) _ rfl h9 ?_)
            | (refine wpList_load_val rfl _ rfl wr.heap.size 0 _ rfl h10 ?_)
            | (refine K.wpList_load_core rfl _ rfl w0.heap.size 0 _ rfl hb8 ?_)
            | (go_at_call 48; refine hcall.mono ?_; rintro e w3 ⟨rfl, hb3⟩; have Hb3 := Lib.hid hb3; clear hb3)
            | fail)
          go_ret
          exact ⟨rfl, HBa.out.trans (Hb3.out.mono HBa.out.size)⟩
    · obtain rfl : j = L.length := by omega
      have hdj : decide ((L.length : Int) < L.length) = false := by simp
      have hRt : R = true := by rw [HR.out]; have h := hno.out; rw [List.take_of_length_le (Nat.le_refl _)] at h; exact h
      subst hRt
      go_wp2_with fail
      go_ret
      exact ⟨rfl, hB⟩


/-- a part of a core's list -/
theorem kidC {w : World} {cl : List K.Cr} {ca : Option Addr} {ccap : Nat} (hcl : cl.length = 0 ∨ ∃ b off, ca = some ⟨b, off, none⟩ ∧ cl.length ≤ ccap ∧ b < w.heap.size ∧ K.coresAt w cl b off) (i : Nat) (hi : i < cl.length) :
    ∃ b off cs, ca = some ⟨b, off, none⟩ ∧ b < w.heap.size ∧ cl.length ≤ ccap ∧ K.Core7 w b (off + i * 7) cs ∧ K.Cr.at w cl[i] cs := by
  rcases hcl with h | ⟨b, off, rfl, h1, h2, h3⟩
  · omega
  · obtain ⟨cs, e1, e2, e3⟩ := K.nodes_get w b cl off h3 i hi
    exact ⟨b, off, cs, rfl, h2, h1, ⟨e1, e2⟩, e3⟩
theorem kidV {w : World} {l : List Vl} {a : Option Addr} {cap : Nat} (hl : l.length = 0 ∨ ∃ b off, a = some ⟨b, off, none⟩ ∧ l.length ≤ cap ∧ b < w.heap.size ∧ valsAt w l b off) (i : Nat) (hi : i < l.length) :
    ∃ b off cs, a = some ⟨b, off, none⟩ ∧ b < w.heap.size ∧ l.length ≤ cap ∧ Val3 w b (off + i * 3) cs ∧ Vl.at w l[i] cs := by
  rcases hl with h | ⟨b, off, rfl, h1, h2, h3⟩
  · omega
  · obtain ⟨cs, e1, e2⟩ := vals_get w b l off h3 i hi
    exact ⟨b, off, cs, rfl, h2, h1, e1, e2⟩
theorem kidsC {w : World} {cl : List K.Cr} {ca : Option Addr} {ccap : Nat} (hcl : cl.length = 0 ∨ ∃ b off, ca = some ⟨b, off, none⟩ ∧ cl.length ≤ ccap ∧ b < w.heap.size ∧ K.coresAt w cl b off) (h0 : 0 < cl.length) :
    ∃ b off, ca = some ⟨b, off, none⟩ ∧ b < w.heap.size ∧ cl.length ≤ ccap ∧ ∀ i (hi : i < cl.length), ∃ cs, K.Core7 w b (off + i * 7) cs ∧ K.Cr.at w cl[i] cs := by
  rcases hcl with h | ⟨b, off, rfl, h1, h2, h3⟩
  · omega
  · exact ⟨b, off, rfl, h2, h1, fun i hi => by
      obtain ⟨cs, e1, e2, e3⟩ := K.nodes_get w b cl off h3 i hi
      exact ⟨cs, ⟨e1, e2⟩, e3⟩⟩
theorem kidsV {w : World} {l : List Vl} {a : Option Addr} {cap : Nat} (hl : l.length = 0 ∨ ∃ b off, a = some ⟨b, off, none⟩ ∧ l.length ≤ cap ∧ b < w.heap.size ∧ valsAt w l b off) (h0 : 0 < l.length) :
    ∃ b off, a = some ⟨b, off, none⟩ ∧ b < w.heap.size ∧ l.length ≤ cap ∧ ∀ i (hi : i < l.length), ∃ cs, Val3 w b (off + i * 3) cs ∧ Vl.at w l[i] cs := by
  rcases hl with h | ⟨b, off, rfl, h1, h2, h3⟩
  · omega
  · exact ⟨b, off, rfl, h2, h1, fun i hi => vals_get w b l off h3 i hi⟩
theorem core7_below {w w' : World} {b off : Nat} {cs : List Value} (h : K.Core7 w b off cs) {B : Nat} (hb : b < B) (hB : Below B w w') : K.Core7 w' b off cs :=
  ⟨h.1, fun q hq => by rw [hB.cell (p := ⟨b, off + q, none⟩) hb]; exact h.2 q hq⟩
theorem one_of_len {α : Type} {l : List α} (h : l.length = 1) : ∃ x, l = [x] := by
  match l, h with
  | [x], _ => exact ⟨x, rfl⟩
theorem two_of_len {α : Type} {l : List α} (h : l.length = 2) : ∃ x y, l = [x, y] := by
  match l, h with
  | [x, y], _ => exact ⟨x, y, rfl⟩

set_option maxHeartbeats 16000000 in
theorem bel_any : ∀ (m : Nat) (c : K.Cr) (v : Vl) (cs ds : List Value) (w : World), c.count + v.count ≤ m → c.form = true → Vl.at w v ds → K.Cr.at w c cs →
    Calls Tryd.prog 48 #[.agg ds.toArray, .agg cs.toArray] w fun e w' => e = .returned (.bool (bel c v)) ∧ Below w.heap.size w w'
  | 0, c, v, _, _, _, h, _, _, _ => absurd (Vl.count_pos v) (by omega)
  | m + 1, c, v, cs, ds, w, hm, hf, hv, hc => by
    have ih := bel_any m
    have Hih := Lib.hid ih
    obtain ⟨W, hW⟩ : ∃ W, W = (w.alloc (.cells ds.toArray 39)).alloc (.cells cs.toArray 28) := ⟨_, rfl⟩
    have hbW : Below w.heap.size w W := by rw [hW]; exact ((Below.refl _ _).alloc (Nat.le_refl _) _).alloc (by simp) _
    have hsW : W.heap.size = w.heap.size + 2 := by rw [hW]; simp
    have hvb : Val3 W w.heap.size 0 ds := by
      rw [hW]
      exact (val3_in (World.alloc_heap_new w (.cells ds.toArray 39)) (at_len hv)).below (by simp) (K.alloc_below _ _)
    have hcb : K.Core7 W (w.heap.size + 1) 0 cs := by
      have h := World.alloc_heap_new (w.alloc (.cells ds.toArray 39)) (.cells cs.toArray 28)
      rw [World.size_alloc] at h
      rw [hW]
      exact K.core7_in h (K.at_len hc)
    have Hv := Lib.hid hv
    have Hc := Lib.hid hc
    obtain ⟨k, s, n, cl⟩ := c
    obtain ⟨vk, z, vl⟩ := v
    rw [at_mk] at hv
    rw [K.at_mk] at hc
    obtain ⟨_, hz, va, vcap, hds, hvmax, hvl⟩ := hv
    obtain ⟨_, _, ca, ccap, hcs, hcmax, hcl⟩ := hc
    rw [K.form_mk, Bool.and_eq_true] at hf
    obtain ⟨hp, hfs⟩ := hf
    rw [K.partOk_eq, Bool.and_eq_true] at hp
    obtain ⟨_, hp⟩ := hp
    rw [K.count_mk, count_mk] at hm
    rw [bel_mk]
    have Hvb : Hid (∀ w', Below W.heap.size W w' → Val3 w' w.heap.size 0 ds) := Lib.hid fun w' h => hvb.below (by omega) h
    have Hcb : Hid (∀ w', Below W.heap.size W w' → K.Core7 w' (w.heap.size + 1) 0 cs) := Lib.hid fun w' h => core7_below hcb (by omega) h
    have HbW := Lib.hid hbW
    have HsW := Lib.hid hsW
    have Hvl := Lib.hid hvl
    have Hvm := Lib.hid hvmax
    have Hcl := Lib.hid hcl
    have Hp := Lib.hid hp
    have Hfs := Lib.hid hfs
    have Hm := Lib.hid hm
    have hvx : (vl.length : Int) ≤ 9223372036854775807 := by unfold maxLen at hvmax; omega
    have hcx : (cl.length : Int) ≤ 9223372036854775807 := by unfold maxLen at hcmax; omega
    have v0c := hvb.2 0 (by decide)
    have v1c := hvb.2 1 (by decide)
    have v2c := hvb.2 2 (by decide)
    have c0c := hcb.2 0 (by decide)
    have c6c := hcb.2 6 (by decide)
    simp only [hds, hcs, Nat.zero_add, List.getElem?_cons_zero, List.getElem?_cons_succ] at v0c v1c v2c c0c c6c
    subst hds hcs
    have Hz := Lib.hid hz
    clear ih hvl hcl hp hfs hm hvb hcb hbW hsW hvmax hcmax hz

    by_cases h7 : k = 7
    · subst h7
      obtain ⟨c0, rfl⟩ := one_of_len (l := cl) (by have := Hp.out; simpa [K.formedC] using this)
      rw [show belT 7 s ([c0].map bel) (.mk vk z vl) = bel c0 (.mk vk z vl) from rfl]
      obtain ⟨b, off, cs0, rfl, hbw, hcap, h70, hkid⟩ := kidC Hcl.out 0 (by simp)
      have hcnt : c0.count + (Vl.mk vk z vl).count ≤ m := by have := Hm.out; rw [K.counts_cons, K.counts_nil] at this; rw [count_mk]; omega
      have hfk : c0.form = true := by have := Hfs.out; rw [K.forms_cons, K.forms_nil, Bool.and_true] at this; exact this
      have hcall := fun L : Later W => Hih.out c0 _ cs0 _ L.val hcnt hfk (Vl.at_below (HbW.out.trans (L.ok.mono HbW.out.size)) (Nat.le_refl _) _ _ Hv.out) (K.Cr.at_below (HbW.out.trans (L.ok.mono HbW.out.size)) (Nat.le_refl _) _ _ hkid)
      have hc7 : ∀ w', (∃ L : Later W, w' = L.val) → K.Core7 w' b (off + 0 * 7) cs0 := fun w' hw' => by
        obtain ⟨L, rfl⟩ := hw'
        exact core7_below h70 hbw (HbW.out.trans (L.ok.mono HbW.out.size))
      have hv3 : ∀ w', (∃ L : Later W, w' = L.val) → Val3 w' w.heap.size 0 _ := fun w' hw' => by
        obtain ⟨L, rfl⟩ := hw'
        exact Hvb.out _ L.ok
      have lc6 : ∀ L : Later W, L.val.cell? ⟨w.heap.size + 1, 6, none⟩ = some (.slice (some ⟨b, off, none⟩) 1 ccap) := fun L => (Hcb.out _ L.ok).2 6 (by decide)
      rw [Nat.zero_mul, Nat.add_zero] at hc7
      obtain ⟨k1, s1, n1, a1, len1, cap1, rfl⟩ := K.at_lit hkid
      have hne := Later.nonempty W
      generalize bel c0 (.mk vk z vl) = r at *
      clear h70 hkid hcnt hfk
      simp only [List.length_cons, List.length_nil, Nat.zero_add] at hW c6c v2c hcx hvx
      go_enter Tryd.func48, Tryd.ntmps48
      go_upto_region 1 with fail
      rw [← hW]

      clear hW
      go_wp2_with fail
      refine wp_region_later (W0 := W) (Below.refl _ _) (by kernel_rfl) (by as_aux_lemma => kernel_rfl) ?_
      repeat (first
        | go_big_quiet_skip
        | (go_big_quiet_want; refine quiet_load_val _ rfl w.heap.size 0 _ rfl hv3 ?_; go_big_quiet_on; simp only [Act.put, List.setIfInBounds_toArray, List.set_cons_zero, List.set_cons_succ])
        | (go_big_quiet_want; refine K.quiet_load_core _ rfl b off _ rfl hc7 ?_; go_big_quiet_on; simp only [Act.put, List.setIfInBounds_toArray, List.set_cons_zero, List.set_cons_succ])
        | go_big_quiet_step (exact Later.calls (hcall _)))
      refine wpQuiet_nil ?_
      intro w' hw'
      obtain ⟨L', rfl⟩ := hw'
      go_wp2_with fail
      go_ret
      exact ⟨rfl, HbW.out.trans (L'.ok.mono HbW.out.size)⟩
    have hk7 : (k == 7) = false := by simp [h7]
    obtain ⟨R, hR⟩ : ∃ R, R = belT k s (cl.map bel) (.mk vk z vl) := ⟨_, rfl⟩
    rw [← hR]
    have HR := Lib.hid hR
    clear hR
    have hfw := fun w' => formed_walk vk z va vl.length vcap w'
    obtain ⟨F, hF⟩ : ∃ F, formV vk z vl.length = F := ⟨_, rfl⟩
    rw [hF] at hfw
    have HF := Lib.hid hF
    clear hF
    cases F with
    | false =>
      have hRf : R = false := by rw [HR.out, belT_else h7, HF.out, Bool.false_and]
      subst hRf
      clear h7 HR
      have hvb0 : Val3 W w.heap.size 0 _ := Hvb.out W (Below.refl _ _)
      try simp only [List.length_cons, List.length_nil, Nat.reduceAdd, Nat.zero_add] at hW c6c v2c hcx hvx
      go_enter Tryd.func48, Tryd.ntmps48
      go_upto_region 1 with fail
      rw [← hW]

      clear hW
      go_wp2_with (first
        | (refine wpList_load_val rfl _ rfl w.heap.size 0 _ rfl hvb0 ?_)
        | (go_at_call 64; refine (hfw _).mono ?_; clear hfw; rintro e W3 ⟨rfl, hb3⟩; have d0 : W3.cell? ⟨w.heap.size, 0, none⟩ = _ := (Hvb.out _ hb3).2 0 (by decide); have d1 : W3.cell? ⟨w.heap.size, 1, none⟩ = _ := (Hvb.out _ hb3).2 1 (by decide); have d2 : W3.cell? ⟨w.heap.size, 2, none⟩ = _ := (Hvb.out _ hb3).2 2 (by decide); have e0 : W3.cell? ⟨w.heap.size + 1, 0, none⟩ = _ := (Hcb.out _ hb3).2 0 (by decide); have e1 : W3.cell? ⟨w.heap.size + 1, 1, none⟩ = _ := (Hcb.out _ hb3).2 1 (by decide); have e2 : W3.cell? ⟨w.heap.size + 1, 2, none⟩ = _ := (Hcb.out _ hb3).2 2 (by decide); have e3 : W3.cell? ⟨w.heap.size + 1, 3, none⟩ = _ := (Hcb.out _ hb3).2 3 (by decide); have e4 : W3.cell? ⟨w.heap.size + 1, 4, none⟩ = _ := (Hcb.out _ hb3).2 4 (by decide); have e6 : W3.cell? ⟨w.heap.size + 1, 6, none⟩ = _ := (Hcb.out _ hb3).2 6 (by decide); simp only [List.getElem?_cons_zero, List.getElem?_cons_succ] at d0 d1 d2 e0 e1 e2 e3 e4 e6; have Hb3 := Lib.hid hb3; clear hb3 v0c v1c v2c c0c c6c)
        | fail)
      go_ret
      exact ⟨rfl, HbW.out.trans (Hb3.out.mono HbW.out.size)⟩
    | true =>
      have hR2 := HR.out
      rw [belT_else h7, HF.out, Bool.true_and] at hR2
      have hk : k = 0 ∨ k = 1 ∨ k = 2 ∨ k = 3 ∨ k = 4 ∨ k = 5 ∨ k = 6 := by
        have := Hp.out
        unfold K.formedC at this
        by_cases g1 : k = 0 ∨ k = 1 ∨ k = 2
        · omega
        by_cases g2 : k = 3 ∨ k = 4
        · omega
        by_cases g3 : k = 5 ∨ k = 7
        · omega
        by_cases g4 : k = 6
        · omega
        rw [if_neg g1, if_neg g2, if_neg g3, if_neg g4] at this
        cases this
      clear h7 HR hk7
      rcases hk with rfl | rfl | rfl | rfl | rfl | rfl | rfl
      · have hRf : R = false := by rw [hR2]; rfl
        subst hRf
        clear hR2
        have hvb0 : Val3 W w.heap.size 0 _ := Hvb.out W (Below.refl _ _)
        try simp only [List.length_cons, List.length_nil, Nat.reduceAdd, Nat.zero_add] at hW c6c v2c hcx hvx
        go_enter Tryd.func48, Tryd.ntmps48
        go_upto_region 1 with fail
        rw [← hW]

        clear hW
        go_wp2_with (first
          | (refine wpList_load_val rfl _ rfl w.heap.size 0 _ rfl hvb0 ?_)
          | (go_at_call 64; refine (hfw _).mono ?_; clear hfw; rintro e W3 ⟨rfl, hb3⟩; have d0 : W3.cell? ⟨w.heap.size, 0, none⟩ = _ := (Hvb.out _ hb3).2 0 (by decide); have d1 : W3.cell? ⟨w.heap.size, 1, none⟩ = _ := (Hvb.out _ hb3).2 1 (by decide); have d2 : W3.cell? ⟨w.heap.size, 2, none⟩ = _ := (Hvb.out _ hb3).2 2 (by decide); have e0 : W3.cell? ⟨w.heap.size + 1, 0, none⟩ = _ := (Hcb.out _ hb3).2 0 (by decide); have e1 : W3.cell? ⟨w.heap.size + 1, 1, none⟩ = _ := (Hcb.out _ hb3).2 1 (by decide); have e2 : W3.cell? ⟨w.heap.size + 1, 2, none⟩ = _ := (Hcb.out _ hb3).2 2 (by decide); have e3 : W3.cell? ⟨w.heap.size + 1, 3, none⟩ = _ := (Hcb.out _ hb3).2 3 (by decide); have e4 : W3.cell? ⟨w.heap.size + 1, 4, none⟩ = _ := (Hcb.out _ hb3).2 4 (by decide); have e6 : W3.cell? ⟨w.heap.size + 1, 6, none⟩ = _ := (Hcb.out _ hb3).2 6 (by decide); simp only [List.getElem?_cons_zero, List.getElem?_cons_succ] at d0 d1 d2 e0 e1 e2 e3 e4 e6; have Hb3 := Lib.hid hb3; clear hb3 v0c v1c v2c c0c c6c)
          | fail)
        go_ret
        exact ⟨rfl, HbW.out.trans (Hb3.out.mono HbW.out.size)⟩
      · have hRf : R = (vk == 1) := by rw [hR2]; rfl
        subst hRf
        clear hR2
        have hvb0 : Val3 W w.heap.size 0 _ := Hvb.out W (Below.refl _ _)
        try simp only [List.length_cons, List.length_nil, Nat.reduceAdd, Nat.zero_add] at hW c6c v2c hcx hvx
        go_enter Tryd.func48, Tryd.ntmps48
        go_upto_region 1 with fail
        rw [← hW]

        clear hW
        go_wp2_with (first
          | (refine wpList_load_val rfl _ rfl w.heap.size 0 _ rfl hvb0 ?_)
          | (go_at_call 64; refine (hfw _).mono ?_; clear hfw; rintro e W3 ⟨rfl, hb3⟩; have d0 : W3.cell? ⟨w.heap.size, 0, none⟩ = _ := (Hvb.out _ hb3).2 0 (by decide); have d1 : W3.cell? ⟨w.heap.size, 1, none⟩ = _ := (Hvb.out _ hb3).2 1 (by decide); have d2 : W3.cell? ⟨w.heap.size, 2, none⟩ = _ := (Hvb.out _ hb3).2 2 (by decide); have e0 : W3.cell? ⟨w.heap.size + 1, 0, none⟩ = _ := (Hcb.out _ hb3).2 0 (by decide); have e1 : W3.cell? ⟨w.heap.size + 1, 1, none⟩ = _ := (Hcb.out _ hb3).2 1 (by decide); have e2 : W3.cell? ⟨w.heap.size + 1, 2, none⟩ = _ := (Hcb.out _ hb3).2 2 (by decide); have e3 : W3.cell? ⟨w.heap.size + 1, 3, none⟩ = _ := (Hcb.out _ hb3).2 3 (by decide); have e4 : W3.cell? ⟨w.heap.size + 1, 4, none⟩ = _ := (Hcb.out _ hb3).2 4 (by decide); have e6 : W3.cell? ⟨w.heap.size + 1, 6, none⟩ = _ := (Hcb.out _ hb3).2 6 (by decide); simp only [List.getElem?_cons_zero, List.getElem?_cons_succ] at d0 d1 d2 e0 e1 e2 e3 e4 e6; have Hb3 := Lib.hid hb3; clear hb3 v0c v1c v2c c0c c6c)
          | fail)
        go_ret
        exact ⟨rfl, HbW.out.trans (Hb3.out.mono HbW.out.size)⟩
      · have hRf : R = (vk == 2 && s.getLsbD z) := by rw [hR2]; rfl
        clear hR2
        have hhas := fun w' => has_any s z Hz.out w'
        cases hv2 : (vk == 2) with
        | false =>
          have hRg : R = false := by rw [hRf, hv2]; rfl
          clear hRf hhas
          subst hRg
          have hvb0 : Val3 W w.heap.size 0 _ := Hvb.out W (Below.refl _ _)
          try simp only [List.length_cons, List.length_nil, Nat.reduceAdd, Nat.zero_add] at hW c6c v2c hcx hvx
          go_enter Tryd.func48, Tryd.ntmps48
          go_upto_region 1 with fail
          rw [← hW]

          clear hW
          go_wp2_with (first
            | (refine wpList_load_val rfl _ rfl w.heap.size 0 _ rfl hvb0 ?_)
            | (go_at_call 64; refine (hfw _).mono ?_; clear hfw; rintro e W3 ⟨rfl, hb3⟩; have d0 : W3.cell? ⟨w.heap.size, 0, none⟩ = _ := (Hvb.out _ hb3).2 0 (by decide); have d1 : W3.cell? ⟨w.heap.size, 1, none⟩ = _ := (Hvb.out _ hb3).2 1 (by decide); have d2 : W3.cell? ⟨w.heap.size, 2, none⟩ = _ := (Hvb.out _ hb3).2 2 (by decide); have e0 : W3.cell? ⟨w.heap.size + 1, 0, none⟩ = _ := (Hcb.out _ hb3).2 0 (by decide); have e1 : W3.cell? ⟨w.heap.size + 1, 1, none⟩ = _ := (Hcb.out _ hb3).2 1 (by decide); have e2 : W3.cell? ⟨w.heap.size + 1, 2, none⟩ = _ := (Hcb.out _ hb3).2 2 (by decide); have e3 : W3.cell? ⟨w.heap.size + 1, 3, none⟩ = _ := (Hcb.out _ hb3).2 3 (by decide); have e4 : W3.cell? ⟨w.heap.size + 1, 4, none⟩ = _ := (Hcb.out _ hb3).2 4 (by decide); have e6 : W3.cell? ⟨w.heap.size + 1, 6, none⟩ = _ := (Hcb.out _ hb3).2 6 (by decide); simp only [List.getElem?_cons_zero, List.getElem?_cons_succ] at d0 d1 d2 e0 e1 e2 e3 e4 e6; have Hb3 := Lib.hid hb3; clear hb3 v0c v1c v2c c0c c6c)
            | fail)
          go_ret
          exact ⟨rfl, HbW.out.trans (Hb3.out.mono HbW.out.size)⟩
        | true =>
          have hRg : R = s.getLsbD z := by rw [hRf, hv2, Bool.true_and]
          clear hRf
          subst hRg
          generalize s.getLsbD z = r at *
          have hvb0 : Val3 W w.heap.size 0 _ := Hvb.out W (Below.refl _ _)
          try simp only [List.length_cons, List.length_nil, Nat.reduceAdd, Nat.zero_add] at hW c6c v2c hcx hvx
          go_enter Tryd.func48, Tryd.ntmps48
          go_upto_region 1 with fail
          rw [← hW]

          clear hW
          go_wp2_with (first
            | (refine wpList_load_val rfl _ rfl w.heap.size 0 _ rfl hvb0 ?_)
            | (go_at_call 64; refine (hfw _).mono ?_; clear hfw; rintro e W3 ⟨rfl, hb3⟩; have d0 : W3.cell? ⟨w.heap.size, 0, none⟩ = _ := (Hvb.out _ hb3).2 0 (by decide); have d1 : W3.cell? ⟨w.heap.size, 1, none⟩ = _ := (Hvb.out _ hb3).2 1 (by decide); have d2 : W3.cell? ⟨w.heap.size, 2, none⟩ = _ := (Hvb.out _ hb3).2 2 (by decide); have e0 : W3.cell? ⟨w.heap.size + 1, 0, none⟩ = _ := (Hcb.out _ hb3).2 0 (by decide); have e1 : W3.cell? ⟨w.heap.size + 1, 1, none⟩ = _ := (Hcb.out _ hb3).2 1 (by decide); have e2 : W3.cell? ⟨w.heap.size + 1, 2, none⟩ = _ := (Hcb.out _ hb3).2 2 (by decide); have e3 : W3.cell? ⟨w.heap.size + 1, 3, none⟩ = _ := (Hcb.out _ hb3).2 3 (by decide); have e4 : W3.cell? ⟨w.heap.size + 1, 4, none⟩ = _ := (Hcb.out _ hb3).2 4 (by decide); have e6 : W3.cell? ⟨w.heap.size + 1, 6, none⟩ = _ := (Hcb.out _ hb3).2 6 (by decide); simp only [List.getElem?_cons_zero, List.getElem?_cons_succ] at d0 d1 d2 e0 e1 e2 e3 e4 e6; have Hb3 := Lib.hid hb3; clear hb3 v0c v1c v2c c0c c6c)
            | (go_at_call 65; refine (hhas _).mono ?_; clear hhas; rintro e W4 ⟨rfl, hb4⟩; have Hb4 := Lib.hid hb4; clear hb4)
            | fail)
          go_ret
          exact ⟨rfl, HbW.out.trans ((Hb3.out.trans (Hb4.out.mono Hb3.out.size)).mono HbW.out.size)⟩
      · cases hv3 : (vk == 3) with
        | false =>
          have hRg : R = false := by rw [hR2]; simp [belK, hv3]
          clear hR2
          subst hRg
          have hvb0 : Val3 W w.heap.size 0 _ := Hvb.out W (Below.refl _ _)
          try simp only [List.length_cons, List.length_nil, Nat.reduceAdd, Nat.zero_add] at hW c6c v2c hcx hvx
          go_enter Tryd.func48, Tryd.ntmps48
          go_upto_region 1 with fail
          rw [← hW]

          clear hW
          go_wp2_with (first
            | (refine wpList_load_val rfl _ rfl w.heap.size 0 _ rfl hvb0 ?_)
            | (go_at_call 64; refine (hfw _).mono ?_; clear hfw; rintro e W3 ⟨rfl, hb3⟩; have d0 : W3.cell? ⟨w.heap.size, 0, none⟩ = _ := (Hvb.out _ hb3).2 0 (by decide); have d1 : W3.cell? ⟨w.heap.size, 1, none⟩ = _ := (Hvb.out _ hb3).2 1 (by decide); have d2 : W3.cell? ⟨w.heap.size, 2, none⟩ = _ := (Hvb.out _ hb3).2 2 (by decide); have e0 : W3.cell? ⟨w.heap.size + 1, 0, none⟩ = _ := (Hcb.out _ hb3).2 0 (by decide); have e1 : W3.cell? ⟨w.heap.size + 1, 1, none⟩ = _ := (Hcb.out _ hb3).2 1 (by decide); have e2 : W3.cell? ⟨w.heap.size + 1, 2, none⟩ = _ := (Hcb.out _ hb3).2 2 (by decide); have e3 : W3.cell? ⟨w.heap.size + 1, 3, none⟩ = _ := (Hcb.out _ hb3).2 3 (by decide); have e4 : W3.cell? ⟨w.heap.size + 1, 4, none⟩ = _ := (Hcb.out _ hb3).2 4 (by decide); have e6 : W3.cell? ⟨w.heap.size + 1, 6, none⟩ = _ := (Hcb.out _ hb3).2 6 (by decide); simp only [List.getElem?_cons_zero, List.getElem?_cons_succ] at d0 d1 d2 e0 e1 e2 e3 e4 e6; have Hb3 := Lib.hid hb3; clear hb3 v0c v1c v2c c0c c6c)
            | fail)
          have HB := Lib.hid (HbW.out.trans (Hb3.out.mono HbW.out.size))
          have HL : Hid (∀ L : Later W3, Below W.heap.size W L.val) := Lib.hid fun L => Hb3.out.trans (L.ok.mono Hb3.out.size)
          have HLw : Hid (∀ L : Later W3, Below w.heap.size w L.val) := Lib.hid fun L => HB.out.trans (L.ok.mono HB.out.size)
          have l0 : ∀ L : Later W3, L.val.cell? ⟨w.heap.size, 0, none⟩ = _ := fun L => (Hvb.out _ (HL.out L)).2 0 (by decide)
          have l2 : ∀ L : Later W3, L.val.cell? ⟨w.heap.size, 2, none⟩ = _ := fun L => (Hvb.out _ (HL.out L)).2 2 (by decide)
          have l6 : ∀ L : Later W3, L.val.cell? ⟨w.heap.size + 1, 6, none⟩ = _ := fun L => (Hcb.out _ (HL.out L)).2 6 (by decide)
          simp only [List.getElem?_cons_zero, List.getElem?_cons_succ] at l0 l2 l6
          have hne := Later.nonempty W3
          refine wp_region_later (W0 := W3) (Below.refl _ _) (by kernel_rfl) (by as_aux_lemma => kernel_rfl) ?_
          repeat (first
            | go_big_quiet_skip
            | go_big_quiet_step (fail))
          refine wpQuiet_nil ?_
          intro w' hw'
          obtain ⟨L', rfl⟩ := hw'
          go_wp2_with fail
          go_ret
          exact ⟨rfl, HLw.out L'⟩
        | true =>
          have hvk : vk = 3 := by simpa using hv3
          clear hv3
          subst hvk
          obtain ⟨x, y, rfl⟩ := two_of_len (l := vl) (by have := HF.out; simp [formV] at this; first | exact this | exact this.2)
          obtain ⟨c0, c1, rfl⟩ := two_of_len (l := cl) (by have := Hp.out; simp [K.formedC] at this; first | exact this | exact this.1.1)
          obtain ⟨b, off, rfl, hbw, hcap, hkv⟩ := kidsV Hvl.out (by simp)
          obtain ⟨dx, h3x, hkx⟩ := hkv 0 (by simp)
          obtain ⟨dy, h3y, hky⟩ := hkv 1 (by simp)
          obtain ⟨cb, coff, rfl, hcbw, hccap, hkc⟩ := kidsC Hcl.out (by simp)
          obtain ⟨dc0, h7c0, hkc0⟩ := hkc 0 (by simp)
          obtain ⟨dc1, h7c1, hkc1⟩ := hkc 1 (by simp)
          clear hkv
          clear hkc
          have hfc0 : c0.form = true := by have := Hfs.out; simp only [K.forms_cons, K.forms_nil, Bool.and_true, Bool.and_eq_true] at this; first | exact this | exact this.1 | exact this.2
          have hfc1 : c1.form = true := by have := Hfs.out; simp only [K.forms_cons, K.forms_nil, Bool.and_true, Bool.and_eq_true] at this; first | exact this | exact this.1 | exact this.2
          have hmm := Hm.out
          simp only [K.counts_cons, K.counts_nil, counts_cons, counts_nil] at hmm
          simp only [List.getElem_cons_zero, List.getElem_cons_succ, Nat.zero_mul, Nat.one_mul, Nat.add_zero] at h3x hkx h3y hky h7c0 hkc0 h7c1 hkc1
          have hlx := at_lit hkx
          obtain ⟨kx, zx, ax, lenx, capx, rfl⟩ := hlx
          have hly := at_lit hky
          obtain ⟨ky, zy, ay, leny, capy, rfl⟩ := hly
          have hlc0 := K.at_lit hkc0
          obtain ⟨kc0, sc0, nc0, ac0, lenc0, capc0, rfl⟩ := hlc0
          have hlc1 := K.at_lit hkc1
          obtain ⟨kc1, sc1, nc1, ac1, lenc1, capc1, rfl⟩ := hlc1
          have hRg : R = (bel c0 x && bel c1 y) := by rw [hR2]; simp [belK]
          clear hR2
          have hvb0 : Val3 W w.heap.size 0 _ := Hvb.out W (Below.refl _ _)
          try simp only [List.length_cons, List.length_nil, Nat.reduceAdd, Nat.zero_add] at hW c6c v2c hcx hvx
          go_enter Tryd.func48, Tryd.ntmps48
          go_upto_region 1 with fail
          rw [← hW]

          clear hW
          go_wp2_with (first
            | (refine wpList_load_val rfl _ rfl w.heap.size 0 _ rfl hvb0 ?_)
            | (go_at_call 64; refine (hfw _).mono ?_; clear hfw; rintro e W3 ⟨rfl, hb3⟩; have d0 : W3.cell? ⟨w.heap.size, 0, none⟩ = _ := (Hvb.out _ hb3).2 0 (by decide); have d1 : W3.cell? ⟨w.heap.size, 1, none⟩ = _ := (Hvb.out _ hb3).2 1 (by decide); have d2 : W3.cell? ⟨w.heap.size, 2, none⟩ = _ := (Hvb.out _ hb3).2 2 (by decide); have e0 : W3.cell? ⟨w.heap.size + 1, 0, none⟩ = _ := (Hcb.out _ hb3).2 0 (by decide); have e1 : W3.cell? ⟨w.heap.size + 1, 1, none⟩ = _ := (Hcb.out _ hb3).2 1 (by decide); have e2 : W3.cell? ⟨w.heap.size + 1, 2, none⟩ = _ := (Hcb.out _ hb3).2 2 (by decide); have e3 : W3.cell? ⟨w.heap.size + 1, 3, none⟩ = _ := (Hcb.out _ hb3).2 3 (by decide); have e4 : W3.cell? ⟨w.heap.size + 1, 4, none⟩ = _ := (Hcb.out _ hb3).2 4 (by decide); have e6 : W3.cell? ⟨w.heap.size + 1, 6, none⟩ = _ := (Hcb.out _ hb3).2 6 (by decide); simp only [List.getElem?_cons_zero, List.getElem?_cons_succ] at d0 d1 d2 e0 e1 e2 e3 e4 e6; have Hb3 := Lib.hid hb3; clear hb3 v0c v1c v2c c0c c6c)
            | fail)
          have HB := Lib.hid (HbW.out.trans (Hb3.out.mono HbW.out.size))
          have HL : Hid (∀ L : Later W3, Below W.heap.size W L.val) := Lib.hid fun L => Hb3.out.trans (L.ok.mono Hb3.out.size)
          have HLw : Hid (∀ L : Later W3, Below w.heap.size w L.val) := Lib.hid fun L => HB.out.trans (L.ok.mono HB.out.size)
          have l0 : ∀ L : Later W3, L.val.cell? ⟨w.heap.size, 0, none⟩ = _ := fun L => (Hvb.out _ (HL.out L)).2 0 (by decide)
          have l2 : ∀ L : Later W3, L.val.cell? ⟨w.heap.size, 2, none⟩ = _ := fun L => (Hvb.out _ (HL.out L)).2 2 (by decide)
          have l6 : ∀ L : Later W3, L.val.cell? ⟨w.heap.size + 1, 6, none⟩ = _ := fun L => (Hcb.out _ (HL.out L)).2 6 (by decide)
          simp only [List.getElem?_cons_zero, List.getElem?_cons_succ] at l0 l2 l6
          have qx : ∀ w', (∃ L : Later W3, w' = L.val) → Val3 w' b off _ := fun w' hw' => by obtain ⟨L, rfl⟩ := hw'; exact h3x.below hbw (HLw.out L)
          have qy : ∀ w', (∃ L : Later W3, w' = L.val) → Val3 w' b (off + 3) _ := fun w' hw' => by obtain ⟨L, rfl⟩ := hw'; exact h3y.below hbw (HLw.out L)
          have qc0 : ∀ w', (∃ L : Later W3, w' = L.val) → K.Core7 w' cb coff _ := fun w' hw' => by obtain ⟨L, rfl⟩ := hw'; exact core7_below h7c0 hcbw (HLw.out L)
          have qc1 : ∀ w', (∃ L : Later W3, w' = L.val) → K.Core7 w' cb (coff + 7) _ := fun w' hw' => by obtain ⟨L, rfl⟩ := hw'; exact core7_below h7c1 hcbw (HLw.out L)
          have hcall := fun L : Later W3 => Hih.out c0 x _ _ L.val (by have := Vl.count_pos x; omega) hfc0 (Vl.at_below (HLw.out L) (Nat.le_refl _) _ _ hkx) (K.Cr.at_below (HLw.out L) (Nat.le_refl _) _ _ hkc0)
          have hcall2 := fun L : Later W3 => Hih.out c1 y _ _ L.val (by have := Vl.count_pos y; omega) hfc1 (Vl.at_below (HLw.out L) (Nat.le_refl _) _ _ hky) (K.Cr.at_below (HLw.out L) (Nat.le_refl _) _ _ hkc1)
          obtain ⟨r1, hr1⟩ : ∃ r, r = bel c0 x := ⟨_, rfl⟩
          obtain ⟨r2, hr2⟩ : ∃ r, r = bel c1 y := ⟨_, rfl⟩
          rw [← hr1] at hcall
          rw [← hr2] at hcall2
          rw [← hr1, ← hr2] at hRg
          clear hr1 hr2
          subst hRg
          have hne := Later.nonempty W3
          clear h3x hkx h3y hky h7c0 hkc0 h7c1 hkc1 hmm hcbw hccap hbw hcap
          refine wp_region_later (W0 := W3) (Below.refl _ _) (by kernel_rfl) (by as_aux_lemma => kernel_rfl) ?_
          cases r1 with
          | false =>
            clear hcall2
            repeat (first
              | go_big_quiet_skip
              | (go_big_quiet_want; refine quiet_load_val _ rfl b off _ rfl qx ?_; go_big_quiet_on; simp only [Act.put, List.setIfInBounds_toArray, List.set_cons_zero, List.set_cons_succ])
              | (go_big_quiet_want; refine quiet_load_val _ rfl b (off + 3) _ rfl qy ?_; go_big_quiet_on; simp only [Act.put, List.setIfInBounds_toArray, List.set_cons_zero, List.set_cons_succ])
              | (go_big_quiet_want; refine K.quiet_load_core _ rfl cb coff _ rfl qc0 ?_; go_big_quiet_on; simp only [Act.put, List.setIfInBounds_toArray, List.set_cons_zero, List.set_cons_succ])
              | (go_big_quiet_want; refine K.quiet_load_core _ rfl cb (coff + 7) _ rfl qc1 ?_; go_big_quiet_on; simp only [Act.put, List.setIfInBounds_toArray, List.set_cons_zero, List.set_cons_succ])
              | go_big_quiet_step (exact Later.calls (hcall _)))
            refine wpQuiet_nil ?_
            intro w' hw'
            obtain ⟨L', rfl⟩ := hw'
            go_wp2_with fail
            go_ret
            exact ⟨rfl, HLw.out L'⟩
          | true =>
            iterate 13 (first
              | go_big_quiet_skip
              | (go_big_quiet_want; refine quiet_load_val _ rfl b off _ rfl qx ?_; go_big_quiet_on; simp only [Act.put, List.setIfInBounds_toArray, List.set_cons_zero, List.set_cons_succ])
              | (go_big_quiet_want; refine quiet_load_val _ rfl b (off + 3) _ rfl qy ?_; go_big_quiet_on; simp only [Act.put, List.setIfInBounds_toArray, List.set_cons_zero, List.set_cons_succ])
              | (go_big_quiet_want; refine K.quiet_load_core _ rfl cb coff _ rfl qc0 ?_; go_big_quiet_on; simp only [Act.put, List.setIfInBounds_toArray, List.set_cons_zero, List.set_cons_succ])
              | (go_big_quiet_want; refine K.quiet_load_core _ rfl cb (coff + 7) _ rfl qc1 ?_; go_big_quiet_on; simp only [Act.put, List.setIfInBounds_toArray, List.set_cons_zero, List.set_cons_succ])
              | go_big_quiet_step (exact Later.calls (hcall _)))
            clear hcall
            repeat (first
              | go_big_quiet_skip
              | (go_big_quiet_want; refine quiet_load_val _ rfl b off _ rfl qx ?_; go_big_quiet_on; simp only [Act.put, List.setIfInBounds_toArray, List.set_cons_zero, List.set_cons_succ])
              | (go_big_quiet_want; refine quiet_load_val _ rfl b (off + 3) _ rfl qy ?_; go_big_quiet_on; simp only [Act.put, List.setIfInBounds_toArray, List.set_cons_zero, List.set_cons_succ])
              | (go_big_quiet_want; refine K.quiet_load_core _ rfl cb coff _ rfl qc0 ?_; go_big_quiet_on; simp only [Act.put, List.setIfInBounds_toArray, List.set_cons_zero, List.set_cons_succ])
              | (go_big_quiet_want; refine K.quiet_load_core _ rfl cb (coff + 7) _ rfl qc1 ?_; go_big_quiet_on; simp only [Act.put, List.setIfInBounds_toArray, List.set_cons_zero, List.set_cons_succ])
              | go_big_quiet_step (exact Later.calls (hcall2 _)))
            refine wpQuiet_nil ?_
            intro w' hw'
            obtain ⟨L', rfl⟩ := hw'
            go_wp2_with fail
            go_ret
            exact ⟨rfl, HLw.out L'⟩
      · cases hv4 : (vk == 4) with
        | false =>
          cases hv5 : (vk == 5) with
          | false =>
            have hRg : R = false := by rw [hR2]; simp [belK, hv4, hv5]
            clear hR2
            subst hRg
            have hvb0 : Val3 W w.heap.size 0 _ := Hvb.out W (Below.refl _ _)
            try simp only [List.length_cons, List.length_nil, Nat.reduceAdd, Nat.zero_add] at hW c6c v2c hcx hvx
            go_enter Tryd.func48, Tryd.ntmps48
            go_upto_region 1 with fail
            rw [← hW]

            clear hW
            go_wp2_with (first
              | (refine wpList_load_val rfl _ rfl w.heap.size 0 _ rfl hvb0 ?_)
              | (go_at_call 64; refine (hfw _).mono ?_; clear hfw; rintro e W3 ⟨rfl, hb3⟩; have d0 : W3.cell? ⟨w.heap.size, 0, none⟩ = _ := (Hvb.out _ hb3).2 0 (by decide); have d1 : W3.cell? ⟨w.heap.size, 1, none⟩ = _ := (Hvb.out _ hb3).2 1 (by decide); have d2 : W3.cell? ⟨w.heap.size, 2, none⟩ = _ := (Hvb.out _ hb3).2 2 (by decide); have e0 : W3.cell? ⟨w.heap.size + 1, 0, none⟩ = _ := (Hcb.out _ hb3).2 0 (by decide); have e1 : W3.cell? ⟨w.heap.size + 1, 1, none⟩ = _ := (Hcb.out _ hb3).2 1 (by decide); have e2 : W3.cell? ⟨w.heap.size + 1, 2, none⟩ = _ := (Hcb.out _ hb3).2 2 (by decide); have e3 : W3.cell? ⟨w.heap.size + 1, 3, none⟩ = _ := (Hcb.out _ hb3).2 3 (by decide); have e4 : W3.cell? ⟨w.heap.size + 1, 4, none⟩ = _ := (Hcb.out _ hb3).2 4 (by decide); have e6 : W3.cell? ⟨w.heap.size + 1, 6, none⟩ = _ := (Hcb.out _ hb3).2 6 (by decide); simp only [List.getElem?_cons_zero, List.getElem?_cons_succ] at d0 d1 d2 e0 e1 e2 e3 e4 e6; have Hb3 := Lib.hid hb3; clear hb3 v0c v1c v2c c0c c6c)
              | fail)
            have HB := Lib.hid (HbW.out.trans (Hb3.out.mono HbW.out.size))
            have HL : Hid (∀ L : Later W3, Below W.heap.size W L.val) := Lib.hid fun L => Hb3.out.trans (L.ok.mono Hb3.out.size)
            have HLw : Hid (∀ L : Later W3, Below w.heap.size w L.val) := Lib.hid fun L => HB.out.trans (L.ok.mono HB.out.size)
            have l0 : ∀ L : Later W3, L.val.cell? ⟨w.heap.size, 0, none⟩ = _ := fun L => (Hvb.out _ (HL.out L)).2 0 (by decide)
            have l2 : ∀ L : Later W3, L.val.cell? ⟨w.heap.size, 2, none⟩ = _ := fun L => (Hvb.out _ (HL.out L)).2 2 (by decide)
            have l6 : ∀ L : Later W3, L.val.cell? ⟨w.heap.size + 1, 6, none⟩ = _ := fun L => (Hcb.out _ (HL.out L)).2 6 (by decide)
            simp only [List.getElem?_cons_zero, List.getElem?_cons_succ] at l0 l2 l6
            have hne := Later.nonempty W3
            refine wp_region_later (W0 := W3) (Below.refl _ _) (by kernel_rfl) (by as_aux_lemma => kernel_rfl) ?_
            repeat (first
              | go_big_quiet_skip
              | go_big_quiet_step (fail))
            refine wpQuiet_nil ?_
            intro w' hw'
            obtain ⟨L', rfl⟩ := hw'
            go_wp2_with fail
            go_ret
            exact ⟨rfl, HLw.out L'⟩
          | true =>
            have hvk : vk = 5 := by simpa using hv5
            clear hv4 hv5
            subst hvk
            obtain ⟨x, rfl⟩ := one_of_len (l := vl) (by have := HF.out; simp [formV] at this; first | exact this | exact this.2)
            obtain ⟨c0, c1, rfl⟩ := two_of_len (l := cl) (by have := Hp.out; simp [K.formedC] at this; first | exact this | exact this.1.1)
            obtain ⟨b, off, rfl, hbw, hcap, hkv⟩ := kidsV Hvl.out (by simp)
            obtain ⟨dx, h3x, hkx⟩ := hkv 0 (by simp)
            obtain ⟨cb, coff, rfl, hcbw, hccap, hkc⟩ := kidsC Hcl.out (by simp)
            obtain ⟨dc0, h7c0, hkc0⟩ := hkc 0 (by simp)
            obtain ⟨dc1, h7c1, hkc1⟩ := hkc 1 (by simp)
            clear hkv
            clear hkc
            have hfc0 : c0.form = true := by have := Hfs.out; simp only [K.forms_cons, K.forms_nil, Bool.and_true, Bool.and_eq_true] at this; first | exact this | exact this.1 | exact this.2
            have hfc1 : c1.form = true := by have := Hfs.out; simp only [K.forms_cons, K.forms_nil, Bool.and_true, Bool.and_eq_true] at this; first | exact this | exact this.1 | exact this.2
            have hmm := Hm.out
            simp only [K.counts_cons, K.counts_nil, counts_cons, counts_nil] at hmm
            simp only [List.getElem_cons_zero, List.getElem_cons_succ, Nat.zero_mul, Nat.one_mul, Nat.add_zero] at h3x hkx h7c0 hkc0 h7c1 hkc1
            have hlx := at_lit hkx
            obtain ⟨kx, zx, ax, lenx, capx, rfl⟩ := hlx
            have hlc0 := K.at_lit hkc0
            obtain ⟨kc0, sc0, nc0, ac0, lenc0, capc0, rfl⟩ := hlc0
            have hlc1 := K.at_lit hkc1
            obtain ⟨kc1, sc1, nc1, ac1, lenc1, capc1, rfl⟩ := hlc1
            have hRg : R = bel c1 x := by rw [hR2]; simp [belK]
            clear hR2
            have hvb0 : Val3 W w.heap.size 0 _ := Hvb.out W (Below.refl _ _)
            try simp only [List.length_cons, List.length_nil, Nat.reduceAdd, Nat.zero_add] at hW c6c v2c hcx hvx
            go_enter Tryd.func48, Tryd.ntmps48
            go_upto_region 1 with fail
            rw [← hW]

            clear hW
            go_wp2_with (first
              | (refine wpList_load_val rfl _ rfl w.heap.size 0 _ rfl hvb0 ?_)
              | (go_at_call 64; refine (hfw _).mono ?_; clear hfw; rintro e W3 ⟨rfl, hb3⟩; have d0 : W3.cell? ⟨w.heap.size, 0, none⟩ = _ := (Hvb.out _ hb3).2 0 (by decide); have d1 : W3.cell? ⟨w.heap.size, 1, none⟩ = _ := (Hvb.out _ hb3).2 1 (by decide); have d2 : W3.cell? ⟨w.heap.size, 2, none⟩ = _ := (Hvb.out _ hb3).2 2 (by decide); have e0 : W3.cell? ⟨w.heap.size + 1, 0, none⟩ = _ := (Hcb.out _ hb3).2 0 (by decide); have e1 : W3.cell? ⟨w.heap.size + 1, 1, none⟩ = _ := (Hcb.out _ hb3).2 1 (by decide); have e2 : W3.cell? ⟨w.heap.size + 1, 2, none⟩ = _ := (Hcb.out _ hb3).2 2 (by decide); have e3 : W3.cell? ⟨w.heap.size + 1, 3, none⟩ = _ := (Hcb.out _ hb3).2 3 (by decide); have e4 : W3.cell? ⟨w.heap.size + 1, 4, none⟩ = _ := (Hcb.out _ hb3).2 4 (by decide); have e6 : W3.cell? ⟨w.heap.size + 1, 6, none⟩ = _ := (Hcb.out _ hb3).2 6 (by decide); simp only [List.getElem?_cons_zero, List.getElem?_cons_succ] at d0 d1 d2 e0 e1 e2 e3 e4 e6; have Hb3 := Lib.hid hb3; clear hb3 v0c v1c v2c c0c c6c)
              | fail)
            have HB := Lib.hid (HbW.out.trans (Hb3.out.mono HbW.out.size))
            have HL : Hid (∀ L : Later W3, Below W.heap.size W L.val) := Lib.hid fun L => Hb3.out.trans (L.ok.mono Hb3.out.size)
            have HLw : Hid (∀ L : Later W3, Below w.heap.size w L.val) := Lib.hid fun L => HB.out.trans (L.ok.mono HB.out.size)
            have l0 : ∀ L : Later W3, L.val.cell? ⟨w.heap.size, 0, none⟩ = _ := fun L => (Hvb.out _ (HL.out L)).2 0 (by decide)
            have l2 : ∀ L : Later W3, L.val.cell? ⟨w.heap.size, 2, none⟩ = _ := fun L => (Hvb.out _ (HL.out L)).2 2 (by decide)
            have l6 : ∀ L : Later W3, L.val.cell? ⟨w.heap.size + 1, 6, none⟩ = _ := fun L => (Hcb.out _ (HL.out L)).2 6 (by decide)
            simp only [List.getElem?_cons_zero, List.getElem?_cons_succ] at l0 l2 l6
            have qx : ∀ w', (∃ L : Later W3, w' = L.val) → Val3 w' b off _ := fun w' hw' => by obtain ⟨L, rfl⟩ := hw'; exact h3x.below hbw (HLw.out L)
            have qc0 : ∀ w', (∃ L : Later W3, w' = L.val) → K.Core7 w' cb coff _ := fun w' hw' => by obtain ⟨L, rfl⟩ := hw'; exact core7_below h7c0 hcbw (HLw.out L)
            have qc1 : ∀ w', (∃ L : Later W3, w' = L.val) → K.Core7 w' cb (coff + 7) _ := fun w' hw' => by obtain ⟨L, rfl⟩ := hw'; exact core7_below h7c1 hcbw (HLw.out L)
            have hcall := fun L : Later W3 => Hih.out c1 x _ _ L.val (by have := Vl.count_pos x; omega) hfc1 (Vl.at_below (HLw.out L) (Nat.le_refl _) _ _ hkx) (K.Cr.at_below (HLw.out L) (Nat.le_refl _) _ _ hkc1)
            generalize bel c1 x = r at *
            subst hRg
            have hne := Later.nonempty W3
            clear h3x hkx h7c0 hkc0 h7c1 hkc1 hmm hcbw hccap hbw hcap
            refine wp_region_later (W0 := W3) (Below.refl _ _) (by kernel_rfl) (by as_aux_lemma => kernel_rfl) ?_
            cases R <;> (
              repeat (first
                | go_big_quiet_skip
                | (go_big_quiet_want; refine quiet_load_val _ rfl b off _ rfl qx ?_; go_big_quiet_on; simp only [Act.put, List.setIfInBounds_toArray, List.set_cons_zero, List.set_cons_succ])
                | (go_big_quiet_want; refine K.quiet_load_core _ rfl cb coff _ rfl qc0 ?_; go_big_quiet_on; simp only [Act.put, List.setIfInBounds_toArray, List.set_cons_zero, List.set_cons_succ])
                | (go_big_quiet_want; refine K.quiet_load_core _ rfl cb (coff + 7) _ rfl qc1 ?_; go_big_quiet_on; simp only [Act.put, List.setIfInBounds_toArray, List.set_cons_zero, List.set_cons_succ])
                | go_big_quiet_step (exact Later.calls (hcall _)))
              refine wpQuiet_nil ?_
              intro w' hw'
              obtain ⟨L', rfl⟩ := hw'
              go_wp2_with fail
              go_ret
              exact ⟨rfl, HLw.out L'⟩)
        | true =>
          have hvk : vk = 4 := by simpa using hv4
          clear hv4
          subst hvk
          obtain ⟨x, rfl⟩ := one_of_len (l := vl) (by have := HF.out; simp [formV] at this; first | exact this | exact this.2)
          obtain ⟨c0, c1, rfl⟩ := two_of_len (l := cl) (by have := Hp.out; simp [K.formedC] at this; first | exact this | exact this.1.1)
          obtain ⟨b, off, rfl, hbw, hcap, hkv⟩ := kidsV Hvl.out (by simp)
          obtain ⟨dx, h3x, hkx⟩ := hkv 0 (by simp)
          obtain ⟨cb, coff, rfl, hcbw, hccap, hkc⟩ := kidsC Hcl.out (by simp)
          obtain ⟨dc0, h7c0, hkc0⟩ := hkc 0 (by simp)
          obtain ⟨dc1, h7c1, hkc1⟩ := hkc 1 (by simp)
          clear hkv
          clear hkc
          have hfc0 : c0.form = true := by have := Hfs.out; simp only [K.forms_cons, K.forms_nil, Bool.and_true, Bool.and_eq_true] at this; first | exact this | exact this.1 | exact this.2
          have hfc1 : c1.form = true := by have := Hfs.out; simp only [K.forms_cons, K.forms_nil, Bool.and_true, Bool.and_eq_true] at this; first | exact this | exact this.1 | exact this.2
          have hmm := Hm.out
          simp only [K.counts_cons, K.counts_nil, counts_cons, counts_nil] at hmm
          simp only [List.getElem_cons_zero, List.getElem_cons_succ, Nat.zero_mul, Nat.one_mul, Nat.add_zero] at h3x hkx h7c0 hkc0 h7c1 hkc1
          have hlx := at_lit hkx
          obtain ⟨kx, zx, ax, lenx, capx, rfl⟩ := hlx
          have hlc0 := K.at_lit hkc0
          obtain ⟨kc0, sc0, nc0, ac0, lenc0, capc0, rfl⟩ := hlc0
          have hlc1 := K.at_lit hkc1
          obtain ⟨kc1, sc1, nc1, ac1, lenc1, capc1, rfl⟩ := hlc1
          have hRg : R = bel c0 x := by rw [hR2]; simp [belK]
          clear hR2
          have hvb0 : Val3 W w.heap.size 0 _ := Hvb.out W (Below.refl _ _)
          try simp only [List.length_cons, List.length_nil, Nat.reduceAdd, Nat.zero_add] at hW c6c v2c hcx hvx
          go_enter Tryd.func48, Tryd.ntmps48
          go_upto_region 1 with fail
          rw [← hW]

          clear hW
          go_wp2_with (first
            | (refine wpList_load_val rfl _ rfl w.heap.size 0 _ rfl hvb0 ?_)
            | (go_at_call 64; refine (hfw _).mono ?_; clear hfw; rintro e W3 ⟨rfl, hb3⟩; have d0 : W3.cell? ⟨w.heap.size, 0, none⟩ = _ := (Hvb.out _ hb3).2 0 (by decide); have d1 : W3.cell? ⟨w.heap.size, 1, none⟩ = _ := (Hvb.out _ hb3).2 1 (by decide); have d2 : W3.cell? ⟨w.heap.size, 2, none⟩ = _ := (Hvb.out _ hb3).2 2 (by decide); have e0 : W3.cell? ⟨w.heap.size + 1, 0, none⟩ = _ := (Hcb.out _ hb3).2 0 (by decide); have e1 : W3.cell? ⟨w.heap.size + 1, 1, none⟩ = _ := (Hcb.out _ hb3).2 1 (by decide); have e2 : W3.cell? ⟨w.heap.size + 1, 2, none⟩ = _ := (Hcb.out _ hb3).2 2 (by decide); have e3 : W3.cell? ⟨w.heap.size + 1, 3, none⟩ = _ := (Hcb.out _ hb3).2 3 (by decide); have e4 : W3.cell? ⟨w.heap.size + 1, 4, none⟩ = _ := (Hcb.out _ hb3).2 4 (by decide); have e6 : W3.cell? ⟨w.heap.size + 1, 6, none⟩ = _ := (Hcb.out _ hb3).2 6 (by decide); simp only [List.getElem?_cons_zero, List.getElem?_cons_succ] at d0 d1 d2 e0 e1 e2 e3 e4 e6; have Hb3 := Lib.hid hb3; clear hb3 v0c v1c v2c c0c c6c)
            | fail)
          have HB := Lib.hid (HbW.out.trans (Hb3.out.mono HbW.out.size))
          have HL : Hid (∀ L : Later W3, Below W.heap.size W L.val) := Lib.hid fun L => Hb3.out.trans (L.ok.mono Hb3.out.size)
          have HLw : Hid (∀ L : Later W3, Below w.heap.size w L.val) := Lib.hid fun L => HB.out.trans (L.ok.mono HB.out.size)
          have l0 : ∀ L : Later W3, L.val.cell? ⟨w.heap.size, 0, none⟩ = _ := fun L => (Hvb.out _ (HL.out L)).2 0 (by decide)
          have l2 : ∀ L : Later W3, L.val.cell? ⟨w.heap.size, 2, none⟩ = _ := fun L => (Hvb.out _ (HL.out L)).2 2 (by decide)
          have l6 : ∀ L : Later W3, L.val.cell? ⟨w.heap.size + 1, 6, none⟩ = _ := fun L => (Hcb.out _ (HL.out L)).2 6 (by decide)
          simp only [List.getElem?_cons_zero, List.getElem?_cons_succ] at l0 l2 l6
          have qx : ∀ w', (∃ L : Later W3, w' = L.val) → Val3 w' b off _ := fun w' hw' => by obtain ⟨L, rfl⟩ := hw'; exact h3x.below hbw (HLw.out L)
          have qc0 : ∀ w', (∃ L : Later W3, w' = L.val) → K.Core7 w' cb coff _ := fun w' hw' => by obtain ⟨L, rfl⟩ := hw'; exact core7_below h7c0 hcbw (HLw.out L)
          have qc1 : ∀ w', (∃ L : Later W3, w' = L.val) → K.Core7 w' cb (coff + 7) _ := fun w' hw' => by obtain ⟨L, rfl⟩ := hw'; exact core7_below h7c1 hcbw (HLw.out L)
          have hcall := fun L : Later W3 => Hih.out c0 x _ _ L.val (by have := Vl.count_pos x; omega) hfc0 (Vl.at_below (HLw.out L) (Nat.le_refl _) _ _ hkx) (K.Cr.at_below (HLw.out L) (Nat.le_refl _) _ _ hkc0)
          generalize bel c0 x = r at *
          subst hRg
          have hne := Later.nonempty W3
          clear h3x hkx h7c0 hkc0 h7c1 hkc1 hmm hcbw hccap hbw hcap
          refine wp_region_later (W0 := W3) (Below.refl _ _) (by kernel_rfl) (by as_aux_lemma => kernel_rfl) ?_
          cases R <;> (
            repeat (first
              | go_big_quiet_skip
              | (go_big_quiet_want; refine quiet_load_val _ rfl b off _ rfl qx ?_; go_big_quiet_on; simp only [Act.put, List.setIfInBounds_toArray, List.set_cons_zero, List.set_cons_succ])
              | (go_big_quiet_want; refine K.quiet_load_core _ rfl cb coff _ rfl qc0 ?_; go_big_quiet_on; simp only [Act.put, List.setIfInBounds_toArray, List.set_cons_zero, List.set_cons_succ])
              | (go_big_quiet_want; refine K.quiet_load_core _ rfl cb (coff + 7) _ rfl qc1 ?_; go_big_quiet_on; simp only [Act.put, List.setIfInBounds_toArray, List.set_cons_zero, List.set_cons_succ])
              | go_big_quiet_step (exact Later.calls (hcall _)))
            refine wpQuiet_nil ?_
            intro w' hw'
            obtain ⟨L', rfl⟩ := hw'
            go_wp2_with fail
            go_ret
            exact ⟨rfl, HLw.out L'⟩)
      · cases hv6 : (vk == 6) with
        | false =>
          have hRg : R = false := by rw [hR2]; simp [belK, hv6]
          clear hR2
          subst hRg
          have hvb0 : Val3 W w.heap.size 0 _ := Hvb.out W (Below.refl _ _)
          try simp only [List.length_cons, List.length_nil, Nat.reduceAdd, Nat.zero_add] at hW c6c v2c hcx hvx
          go_enter Tryd.func48, Tryd.ntmps48
          go_upto_region 1 with fail
          rw [← hW]

          clear hW
          go_wp2_with (first
            | (refine wpList_load_val rfl _ rfl w.heap.size 0 _ rfl hvb0 ?_)
            | (go_at_call 64; refine (hfw _).mono ?_; clear hfw; rintro e W3 ⟨rfl, hb3⟩; have d0 : W3.cell? ⟨w.heap.size, 0, none⟩ = _ := (Hvb.out _ hb3).2 0 (by decide); have d1 : W3.cell? ⟨w.heap.size, 1, none⟩ = _ := (Hvb.out _ hb3).2 1 (by decide); have d2 : W3.cell? ⟨w.heap.size, 2, none⟩ = _ := (Hvb.out _ hb3).2 2 (by decide); have e0 : W3.cell? ⟨w.heap.size + 1, 0, none⟩ = _ := (Hcb.out _ hb3).2 0 (by decide); have e1 : W3.cell? ⟨w.heap.size + 1, 1, none⟩ = _ := (Hcb.out _ hb3).2 1 (by decide); have e2 : W3.cell? ⟨w.heap.size + 1, 2, none⟩ = _ := (Hcb.out _ hb3).2 2 (by decide); have e3 : W3.cell? ⟨w.heap.size + 1, 3, none⟩ = _ := (Hcb.out _ hb3).2 3 (by decide); have e4 : W3.cell? ⟨w.heap.size + 1, 4, none⟩ = _ := (Hcb.out _ hb3).2 4 (by decide); have e6 : W3.cell? ⟨w.heap.size + 1, 6, none⟩ = _ := (Hcb.out _ hb3).2 6 (by decide); simp only [List.getElem?_cons_zero, List.getElem?_cons_succ] at d0 d1 d2 e0 e1 e2 e3 e4 e6; have Hb3 := Lib.hid hb3; clear hb3 v0c v1c v2c c0c c6c)
            | fail)
          have HB := Lib.hid (HbW.out.trans (Hb3.out.mono HbW.out.size))
          have HL : Hid (∀ L : Later W3, Below W.heap.size W L.val) := Lib.hid fun L => Hb3.out.trans (L.ok.mono Hb3.out.size)
          have HLw : Hid (∀ L : Later W3, Below w.heap.size w L.val) := Lib.hid fun L => HB.out.trans (L.ok.mono HB.out.size)
          have l0 : ∀ L : Later W3, L.val.cell? ⟨w.heap.size, 0, none⟩ = _ := fun L => (Hvb.out _ (HL.out L)).2 0 (by decide)
          have l2 : ∀ L : Later W3, L.val.cell? ⟨w.heap.size, 2, none⟩ = _ := fun L => (Hvb.out _ (HL.out L)).2 2 (by decide)
          have l6 : ∀ L : Later W3, L.val.cell? ⟨w.heap.size + 1, 6, none⟩ = _ := fun L => (Hcb.out _ (HL.out L)).2 6 (by decide)
          simp only [List.getElem?_cons_zero, List.getElem?_cons_succ] at l0 l2 l6
          have hne := Later.nonempty W3
          refine wp_region_later (W0 := W3) (Below.refl _ _) (by kernel_rfl) (by as_aux_lemma => kernel_rfl) ?_
          repeat (first
            | go_big_quiet_skip
            | go_big_quiet_step (fail))
          refine wpQuiet_nil ?_
          intro w' hw'
          obtain ⟨L', rfl⟩ := hw'
          go_wp2_with fail
          go_ret
          exact ⟨rfl, HLw.out L'⟩
        | true =>
          have hvk : vk = 6 := by simpa using hv6
          clear hv6
          subst hvk
          obtain ⟨c0, rfl⟩ := one_of_len (l := cl) (by have := Hp.out; simp [K.formedC] at this; first | exact this | exact this.1.1)
          obtain ⟨cb, coff, rfl, hcbw, hccap, hkc⟩ := kidsC Hcl.out (by simp)
          obtain ⟨dc0, h7c0, hkc0⟩ := hkc 0 (by simp)
          clear hkc
          have hfc0 : c0.form = true := by have := Hfs.out; simp only [K.forms_cons, K.forms_nil, Bool.and_true] at this; first | exact this | exact this.1 | exact this.2
          have hmm := Hm.out
          simp only [K.counts_cons, K.counts_nil] at hmm
          simp only [List.getElem_cons_zero, Nat.zero_mul, Nat.add_zero] at h7c0 hkc0
          have hlc0 := K.at_lit hkc0
          obtain ⟨kc0, sc0, nc0, ac0, lenc0, capc0, rfl⟩ := hlc0
          have hRg : R = vl.all (bel c0) := by rw [hR2]; simp [belK]
          clear hR2
          have hvb0 : Val3 W w.heap.size 0 _ := Hvb.out W (Below.refl _ _)
          try simp only [List.length_cons, List.length_nil, Nat.zero_add] at hW c6c v2c hcx hvx
          go_enter Tryd.func48, Tryd.ntmps48
          go_upto_region 1 with fail
          rw [← hW]

          clear hW
          go_wp2_with (first
            | (refine wpList_load_val rfl _ rfl w.heap.size 0 _ rfl hvb0 ?_)
            | (go_at_call 64; refine (hfw _).mono ?_; clear hfw; rintro e W3 ⟨rfl, hb3⟩; have d0 : W3.cell? ⟨w.heap.size, 0, none⟩ = _ := (Hvb.out _ hb3).2 0 (by decide); have d1 : W3.cell? ⟨w.heap.size, 1, none⟩ = _ := (Hvb.out _ hb3).2 1 (by decide); have d2 : W3.cell? ⟨w.heap.size, 2, none⟩ = _ := (Hvb.out _ hb3).2 2 (by decide); have e0 : W3.cell? ⟨w.heap.size + 1, 0, none⟩ = _ := (Hcb.out _ hb3).2 0 (by decide); have e1 : W3.cell? ⟨w.heap.size + 1, 1, none⟩ = _ := (Hcb.out _ hb3).2 1 (by decide); have e2 : W3.cell? ⟨w.heap.size + 1, 2, none⟩ = _ := (Hcb.out _ hb3).2 2 (by decide); have e3 : W3.cell? ⟨w.heap.size + 1, 3, none⟩ = _ := (Hcb.out _ hb3).2 3 (by decide); have e4 : W3.cell? ⟨w.heap.size + 1, 4, none⟩ = _ := (Hcb.out _ hb3).2 4 (by decide); have e6 : W3.cell? ⟨w.heap.size + 1, 6, none⟩ = _ := (Hcb.out _ hb3).2 6 (by decide); simp only [List.getElem?_cons_zero, List.getElem?_cons_succ] at d0 d1 d2 e0 e1 e2 e3 e4 e6; have Hb3 := Lib.hid hb3; clear hb3 v0c v1c v2c c0c c6c)
            | fail)
          have HB := Lib.hid (HbW.out.trans (Hb3.out.mono HbW.out.size))
          have HL : Hid (∀ L : Later W3, Below W.heap.size W L.val) := Lib.hid fun L => Hb3.out.trans (L.ok.mono Hb3.out.size)
          have HLw : Hid (∀ L : Later W3, Below w.heap.size w L.val) := Lib.hid fun L => HB.out.trans (L.ok.mono HB.out.size)
          have l0 : ∀ L : Later W3, L.val.cell? ⟨w.heap.size, 0, none⟩ = _ := fun L => (Hvb.out _ (HL.out L)).2 0 (by decide)
          have l2 : ∀ L : Later W3, L.val.cell? ⟨w.heap.size, 2, none⟩ = _ := fun L => (Hvb.out _ (HL.out L)).2 2 (by decide)
          have l6 : ∀ L : Later W3, L.val.cell? ⟨w.heap.size + 1, 6, none⟩ = _ := fun L => (Hcb.out _ (HL.out L)).2 6 (by decide)
          simp only [List.getElem?_cons_zero, List.getElem?_cons_succ] at l0 l2 l6
          have qc0 : ∀ w', (∃ L : Later W3, w' = L.val) → K.Core7 w' cb coff _ := fun w' hw' => by obtain ⟨L, rfl⟩ := hw'; exact core7_below h7c0 hcbw (HLw.out L)
          have hcall := fun L : Later W3 => all_any (K.Cr.at_below (HLw.out L) (Nat.le_refl _) _ _ hkc0) (counts vl) (fun v ds w' hcv hav hcc => Hih.out c0 v _ ds w' (by omega) hfc0 hav hcc) vl _ (ListAt.below (w := w) ⟨va, vcap, rfl, Hvm.out, Hvl.out⟩ (HLw.out L)) (Nat.le_refl _)
          generalize vl.all (bel c0) = r at *
          subst hRg
          have hne := Later.nonempty W3
          clear h7c0 hkc0 hmm hcbw hccap
          refine wp_region_later (W0 := W3) (Below.refl _ _) (by kernel_rfl) (by as_aux_lemma => kernel_rfl) ?_
          repeat (first
            | go_big_quiet_skip
            | (go_big_quiet_want; refine K.quiet_load_core _ rfl cb coff _ rfl qc0 ?_; go_big_quiet_on; simp only [Act.put, List.setIfInBounds_toArray, List.set_cons_zero, List.set_cons_succ])
            | go_big_quiet_step (exact Later.calls (hcall _)))
          refine wpQuiet_nil ?_
          intro w' hw'
          obtain ⟨L', rfl⟩ := hw'
          go_wp2_with fail
          go_ret
          exact ⟨rfl, HLw.out L'⟩
      · cases hv7 : (vk == 7) with
        | false =>
          have hRg : R = false := by rw [hR2]; simp [belK, hv7]
          clear hR2
          subst hRg
          have hvb0 : Val3 W w.heap.size 0 _ := Hvb.out W (Below.refl _ _)
          try simp only [List.length_cons, List.length_nil, Nat.reduceAdd, Nat.zero_add] at hW c6c v2c hcx hvx
          go_enter Tryd.func48, Tryd.ntmps48
          go_upto_region 1 with fail
          rw [← hW]

          clear hW
          go_wp2_with (first
            | (refine wpList_load_val rfl _ rfl w.heap.size 0 _ rfl hvb0 ?_)
            | (go_at_call 64; refine (hfw _).mono ?_; clear hfw; rintro e W3 ⟨rfl, hb3⟩; have d0 : W3.cell? ⟨w.heap.size, 0, none⟩ = _ := (Hvb.out _ hb3).2 0 (by decide); have d1 : W3.cell? ⟨w.heap.size, 1, none⟩ = _ := (Hvb.out _ hb3).2 1 (by decide); have d2 : W3.cell? ⟨w.heap.size, 2, none⟩ = _ := (Hvb.out _ hb3).2 2 (by decide); have e0 : W3.cell? ⟨w.heap.size + 1, 0, none⟩ = _ := (Hcb.out _ hb3).2 0 (by decide); have e1 : W3.cell? ⟨w.heap.size + 1, 1, none⟩ = _ := (Hcb.out _ hb3).2 1 (by decide); have e2 : W3.cell? ⟨w.heap.size + 1, 2, none⟩ = _ := (Hcb.out _ hb3).2 2 (by decide); have e3 : W3.cell? ⟨w.heap.size + 1, 3, none⟩ = _ := (Hcb.out _ hb3).2 3 (by decide); have e4 : W3.cell? ⟨w.heap.size + 1, 4, none⟩ = _ := (Hcb.out _ hb3).2 4 (by decide); have e6 : W3.cell? ⟨w.heap.size + 1, 6, none⟩ = _ := (Hcb.out _ hb3).2 6 (by decide); simp only [List.getElem?_cons_zero, List.getElem?_cons_succ] at d0 d1 d2 e0 e1 e2 e3 e4 e6; have Hb3 := Lib.hid hb3; clear hb3 v0c v1c v2c c0c c6c)
            | fail)
          have HB := Lib.hid (HbW.out.trans (Hb3.out.mono HbW.out.size))
          have HL : Hid (∀ L : Later W3, Below W.heap.size W L.val) := Lib.hid fun L => Hb3.out.trans (L.ok.mono Hb3.out.size)
          have HLw : Hid (∀ L : Later W3, Below w.heap.size w L.val) := Lib.hid fun L => HB.out.trans (L.ok.mono HB.out.size)
          have l0 : ∀ L : Later W3, L.val.cell? ⟨w.heap.size, 0, none⟩ = _ := fun L => (Hvb.out _ (HL.out L)).2 0 (by decide)
          have l2 : ∀ L : Later W3, L.val.cell? ⟨w.heap.size, 2, none⟩ = _ := fun L => (Hvb.out _ (HL.out L)).2 2 (by decide)
          have l6 : ∀ L : Later W3, L.val.cell? ⟨w.heap.size + 1, 6, none⟩ = _ := fun L => (Hcb.out _ (HL.out L)).2 6 (by decide)
          simp only [List.getElem?_cons_zero, List.getElem?_cons_succ] at l0 l2 l6
          have hne := Later.nonempty W3
          refine wp_region_later (W0 := W3) (Below.refl _ _) (by kernel_rfl) (by as_aux_lemma => kernel_rfl) ?_
          repeat (first
            | go_big_quiet_skip
            | go_big_quiet_step (fail))
          refine wpQuiet_nil ?_
          intro w' hw'
          obtain ⟨L', rfl⟩ := hw'
          go_wp2_with fail
          go_ret
          exact ⟨rfl, HLw.out L'⟩
        | true =>
          have hvk : vk = 7 := by simpa using hv7
          clear hv7
          subst hvk
          obtain ⟨x, rfl⟩ := one_of_len (l := vl) (by have := HF.out; simp [formV] at this; first | exact this | exact this.2)
          obtain ⟨c0, rfl⟩ := one_of_len (l := cl) (by have := Hp.out; simp [K.formedC] at this; first | exact this | exact this.1.1)
          obtain ⟨b, off, rfl, hbw, hcap, hkv⟩ := kidsV Hvl.out (by simp)
          obtain ⟨dx, h3x, hkx⟩ := hkv 0 (by simp)
          obtain ⟨cb, coff, rfl, hcbw, hccap, hkc⟩ := kidsC Hcl.out (by simp)
          obtain ⟨dc0, h7c0, hkc0⟩ := hkc 0 (by simp)
          clear hkv
          clear hkc
          have hfc0 : c0.form = true := by have := Hfs.out; simp only [K.forms_cons, K.forms_nil, Bool.and_true] at this; first | exact this | exact this.1 | exact this.2
          have hmm := Hm.out
          simp only [K.counts_cons, K.counts_nil, counts_cons, counts_nil] at hmm
          simp only [List.getElem_cons_zero, Nat.zero_mul, Nat.add_zero] at h3x hkx h7c0 hkc0
          have hlx := at_lit hkx
          obtain ⟨kx, zx, ax, lenx, capx, rfl⟩ := hlx
          have hlc0 := K.at_lit hkc0
          obtain ⟨kc0, sc0, nc0, ac0, lenc0, capc0, rfl⟩ := hlc0
          have hRg : R = bel c0 x := by rw [hR2]; simp [belK]
          clear hR2
          have hvb0 : Val3 W w.heap.size 0 _ := Hvb.out W (Below.refl _ _)
          try simp only [List.length_cons, List.length_nil, Nat.zero_add] at hW c6c v2c hcx hvx
          go_enter Tryd.func48, Tryd.ntmps48
          go_upto_region 1 with fail
          rw [← hW]

          clear hW
          go_wp2_with (first
            | (refine wpList_load_val rfl _ rfl w.heap.size 0 _ rfl hvb0 ?_)
            | (go_at_call 64; refine (hfw _).mono ?_; clear hfw; rintro e W3 ⟨rfl, hb3⟩; have d0 : W3.cell? ⟨w.heap.size, 0, none⟩ = _ := (Hvb.out _ hb3).2 0 (by decide); have d1 : W3.cell? ⟨w.heap.size, 1, none⟩ = _ := (Hvb.out _ hb3).2 1 (by decide); have d2 : W3.cell? ⟨w.heap.size, 2, none⟩ = _ := (Hvb.out _ hb3).2 2 (by decide); have e0 : W3.cell? ⟨w.heap.size + 1, 0, none⟩ = _ := (Hcb.out _ hb3).2 0 (by decide); have e1 : W3.cell? ⟨w.heap.size + 1, 1, none⟩ = _ := (Hcb.out _ hb3).2 1 (by decide); have e2 : W3.cell? ⟨w.heap.size + 1, 2, none⟩ = _ := (Hcb.out _ hb3).2 2 (by decide); have e3 : W3.cell? ⟨w.heap.size + 1, 3, none⟩ = _ := (Hcb.out _ hb3).2 3 (by decide); have e4 : W3.cell? ⟨w.heap.size + 1, 4, none⟩ = _ := (Hcb.out _ hb3).2 4 (by decide); have e6 : W3.cell? ⟨w.heap.size + 1, 6, none⟩ = _ := (Hcb.out _ hb3).2 6 (by decide); simp only [List.getElem?_cons_zero, List.getElem?_cons_succ] at d0 d1 d2 e0 e1 e2 e3 e4 e6; have Hb3 := Lib.hid hb3; clear hb3 v0c v1c v2c c0c c6c)
            | fail)
          have HB := Lib.hid (HbW.out.trans (Hb3.out.mono HbW.out.size))
          have HL : Hid (∀ L : Later W3, Below W.heap.size W L.val) := Lib.hid fun L => Hb3.out.trans (L.ok.mono Hb3.out.size)
          have HLw : Hid (∀ L : Later W3, Below w.heap.size w L.val) := Lib.hid fun L => HB.out.trans (L.ok.mono HB.out.size)
          have l0 : ∀ L : Later W3, L.val.cell? ⟨w.heap.size, 0, none⟩ = _ := fun L => (Hvb.out _ (HL.out L)).2 0 (by decide)
          have l2 : ∀ L : Later W3, L.val.cell? ⟨w.heap.size, 2, none⟩ = _ := fun L => (Hvb.out _ (HL.out L)).2 2 (by decide)
          have l6 : ∀ L : Later W3, L.val.cell? ⟨w.heap.size + 1, 6, none⟩ = _ := fun L => (Hcb.out _ (HL.out L)).2 6 (by decide)
          simp only [List.getElem?_cons_zero, List.getElem?_cons_succ] at l0 l2 l6
          have qx : ∀ w', (∃ L : Later W3, w' = L.val) → Val3 w' b off _ := fun w' hw' => by obtain ⟨L, rfl⟩ := hw'; exact h3x.below hbw (HLw.out L)
          have qc0 : ∀ w', (∃ L : Later W3, w' = L.val) → K.Core7 w' cb coff _ := fun w' hw' => by obtain ⟨L, rfl⟩ := hw'; exact core7_below h7c0 hcbw (HLw.out L)
          have hcall := fun L : Later W3 => Hih.out c0 x _ _ L.val (by have := Vl.count_pos x; omega) hfc0 (Vl.at_below (HLw.out L) (Nat.le_refl _) _ _ hkx) (K.Cr.at_below (HLw.out L) (Nat.le_refl _) _ _ hkc0)
          generalize bel c0 x = r at *
          subst hRg
          have hne := Later.nonempty W3
          clear h3x hkx h7c0 hkc0 hmm hcbw hccap hbw hcap
          refine wp_region_later (W0 := W3) (Below.refl _ _) (by kernel_rfl) (by as_aux_lemma => kernel_rfl) ?_
          repeat (first
            | go_big_quiet_skip
            | (go_big_quiet_want; refine quiet_load_val _ rfl b off _ rfl qx ?_; go_big_quiet_on; simp only [Act.put, List.setIfInBounds_toArray, List.set_cons_zero, List.set_cons_succ])
            | (go_big_quiet_want; refine K.quiet_load_core _ rfl cb coff _ rfl qc0 ?_; go_big_quiet_on; simp only [Act.put, List.setIfInBounds_toArray, List.set_cons_zero, List.set_cons_succ])
            | go_big_quiet_step (exact Later.calls (hcall _)))
          refine wpQuiet_nil ?_
          intro w' hw'
          obtain ⟨L', rfl⟩ := hw'
          go_wp2_with fail
          go_ret
          exact ⟨rfl, HLw.out L'⟩
end V
end Go.Proofs.YtonhmjfopidacaaDoor
