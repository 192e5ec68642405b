/- bits.write, writeFirst, Put, walked for every value that is not too great. -/
import Derived.Test.YtblgjcolmaidlaaBitsMath
import Derived.Deep.DeepCutAuto
namespace Go.Proofs.Ytblgjcolmaidlaa
namespace V
set_option maxRecDepth 100000
open Go.RowKit
/-- writing of one value's choices -/
def PutOk (W0 : World) (x : Vl) : Prop := ∀ (cs : List Value) (l : List Nat) (v : Value) (w : World), Vl.at W0 x cs → Below W0.heap.size W0 w → Bld w W0.heap.size W0.heap.size l v → l.length + x.put.length + 8 ≤ most →
  Calls Try.prog 21 #[.pointer (some ⟨W0.heap.size, 0, none⟩), .agg cs.toArray] w (Writes W0.heap.size w v (l ++ x.put))
theorem putFlat_take (L : List Vl) (k : Nat) (hk : k < L.length) : ((L.take (k + 1)).map Vl.put).flatten = ((L.take k).map Vl.put).flatten ++ L[k].put := by
  rw [List.take_succ_eq_append_getElem hk, List.map_append, List.flatten_append]; simp
theorem putFlat_pre (L : List Vl) (k n : Nat) (h : k ≤ n) : (((L.take k).map Vl.put).flatten).length ≤ (((L.take n).map Vl.put).flatten).length := by
  have e : L.take n = L.take k ++ (L.take n).drop k := by
    have := List.take_append_drop k (L.take n)
    rw [List.take_take, Nat.min_eq_left h] at this
    exact this.symm
  rw [e, List.map_append, List.flatten_append, List.length_append]; omega
set_option maxHeartbeats 4000000 in
theorem wfirst_walk {W0 : World} (L : List Vl) (hL : ∀ y ∈ L, PutOk W0 y) (a : Option Addr) (cap : Nat) (hmax : L.length ≤ maxLen) (c : Nat) (hc : c = 1 ∨ c = 2)
    (hmem : L.length = 0 ∨ ∃ b off, a = some ⟨b, off, none⟩ ∧ L.length ≤ cap ∧ b < W0.heap.size ∧ valsAt W0 L b off) (l : List Nat) (v : Value) (w : World) (hb : Below W0.heap.size W0 w) (hbld : Bld w W0.heap.size W0.heap.size l v)
    (hlen : l.length + (((L.take c).map Vl.put).flatten).length + 8 ≤ most) :
    Calls Try.prog 24 #[.pointer (some ⟨W0.heap.size, 0, none⟩), .int .i64 c, .slice a L.length cap] w (Writes W0.heap.size w v (l ++ ((L.take c).map Vl.put).flatten)) := by
  obtain ⟨n, hn⟩ : ∃ n, n = L.length := ⟨_, rfl⟩
  have hmin : L.take c = L.take (min c n) := by rw [hn, List.take_eq_take_min]
  rw [hmin] at hlen ⊢
  obtain ⟨m, hm⟩ : ∃ m, m = min c n := ⟨_, rfl⟩
  rw [← hm] at hlen ⊢
  rw [← hn]
  have hnm : (n : Int) ≤ 9223372036854775807 := by unfold maxLen at hmax; omega
  have hcap2 : n ≤ cap := by rcases hmem with h | ⟨_, _, _, h, _⟩ <;> omega
  have Hmem := Lib.hid hmem
  clear hmem
  have hml : m ≤ L.length := by omega
  have hmn : m ≤ n := by omega
  have HN := Lib.hid (And.intro hn hml)
  have HLen := Lib.hid hlen
  have Hb := Lib.hid hb
  have HL := Lib.hid hL
  have Hbs := Lib.hid (Nat.le_of_lt hbld.lt)
  have Hbld := Lib.hid hbld
  have hm1 : m = 1 ∧ c = 1 ∧ 1 ≤ n ∨ m = 2 ∧ c = 2 ∧ 2 ≤ n ∨ m = n ∧ n < c := by omega
  have Hm1 := Lib.hid hm1
  have hdn : decide ((n : Int) < c) = decide (n < c) := by by_cases h : n < c <;> simp [h]
  have hdc : decide ((c : Int) < n) = decide (c < n) := by by_cases h : c < n <;> simp [h]
  have hmI : min (c : Int) (n : Int) = (m : Int) := by omega
  have hmT : ((m : Int)).toNat = m := rfl
  have hmX : max (m : Int) 0 = (m : Int) := by omega
  have hm0 : (0 : Int) ≤ (m : Int) := by omega
  have hmC : (m : Int) ≤ (cap : Int) := by omega
  clear hlen hb hbld hL hmax hmin hm1 hml hn hm hdn hdc
  have hcI : (c : Int) ≤ 2 := by omega
  have hcI0 : 0 ≤ (c : Int) := by omega
  go_enter Try.func24, Try.ntmps24
  go_wp2_with fail
  go_loopw [15] (fun i wr => ∃ (k : Nat) (v' : Value), k ≤ m ∧ i = .int .i64 k ∧ Bld wr W0.heap.size W0.heap.size (l ++ ((L.take k).map Vl.put).flatten) v' ∧ Wrote W0.heap.size W0.heap.size w v wr v') (fun i _ => m - (intOf i).toNat)
  case atStart => exact ⟨0, v, by omega, rfl, by simpa using Hbld.out, Wrote.refl _ _ _ _⟩
  case round =>
    obtain ⟨k, v', hk, rfl, hbw, hww⟩ := hrel
    by_cases hkn : k < m
    · have hd : decide ((k : Int) < m) = true := by simp; omega
      have hkL : k < L.length := by have := HN.out.2; omega
      obtain ⟨bn, off, rfl, hcap, hbn, hnodes⟩ := Hmem.out.resolve_left (by omega)
      obtain ⟨cs, hcells, hat⟩ := vals_get W0 bn L off hnodes k hkL
      have hbr : Below W0.heap.size W0 wr := Hb.out.trans hww.below
      have h9 : Val3 wr bn (off + k * 3) cs := hcells.below hbn hbr
      obtain ⟨kq, zq, aq, lenq, capq, rfl⟩ := at_lit hat
      obtain ⟨y, hy⟩ : ∃ y, y = L[k] := ⟨_, rfl⟩
      rw [← hy] at hat
      have hyL : y ∈ L := by rw [hy]; exact List.getElem_mem hkL
      have hnext := putFlat_take L k hkL
      rw [← hy] at hnext
      have htk := putFlat_pre L (k + 1) m (by omega)
      have hbound : (l ++ ((L.take k).map Vl.put).flatten).length + y.put.length + 8 ≤ most := by have := HLen.out; rw [hnext, List.length_append] at htk; rw [List.length_append]; omega
      have hkn2 : k < n := by have := HN.out.1; omega
      have Hnext := Lib.hid (And.intro hnext hbound)
      have H9 := Lib.hid h9
      have Hat := Lib.hid hat
      have HyL := Lib.hid hyL
      have Hbw := Lib.hid hbw
      have Hww := Lib.hid hww
      have Hbr := Lib.hid hbr
      have hBr : W0.heap.size ≤ wr.heap.size := Nat.le_of_lt hbw.lt
      have HBr := Lib.hid hBr
      have hn0 : ValIn (wr.alloc (.cells #[.int .i64 0, .int .u8 0, .slice none 0 0] 25)) wr.heap.size #[.int .i64 0, .int .u8 0, .slice none 0 0] := World.alloc_heap_new wr _
      have hal : Below wr.heap.size wr (wr.alloc (.cells #[.int .i64 0, .int .u8 0, .slice none 0 0] 25)) := (Below.refl _ _).alloc (Nat.le_refl _) _
      have Hn0 := Lib.hid (And.intro hn0 hal)
      clear hnext hbound htk h9 hat hy hyL hbw hww hbr hBr hn0 hal hcells hnodes hkL hbn
      go_upto_region 3 with (first | (refine wpList_load_val rfl _ rfl bn (off + k * 3) _ rfl H9.out ?_) | (refine wpList_store_val rfl _ _ rfl wr.heap.size _ #[.int .i64 kq, .int .u8 zq, .slice aq lenq capq] rfl rfl Hn0.out.1 rfl rfl (by simp [Value.oneCell']) ?_; refine Hid.out ?_))
      refine Lib.hid ?_
      intro w3 hn3 ho3
      have hb3 := ho3.below Hn0.out.2 (Nat.le_refl _)
      have hlt3 : wr.heap.size < w3.heap.size := lt_of_block hn3
      have hW3 := Lib.hid (And.intro (Hbw.out.later hb3) (And.intro (Hww.out.trans (Wrote.later v' hb3 HBr.out)) (Hbr.out.trans (hb3.mono HBr.out))))
      have Hb9 := Lib.hid (val3_in (cs := [.int .i64 kq, .int .u8 zq, .slice aq lenq capq]) hn3 rfl)
      clear hn3 ho3 hb3 Hn0 H9 Hbw Hww Hbr hlt3
      go_wp2_with (first | (refine wpList_load_val rfl _ rfl wr.heap.size 0 _ rfl Hb9.out ?_))
      refine (HL.out y HyL.out _ _ v' w3 Hat.out hW3.out.2.2 hW3.out.1 (by have h2 := Hnext.out.2; omega)).mono ?_
      rintro e w5 ⟨rfl, v5, h5, hw5⟩
      have H5 := Lib.hid (And.intro h5 (hW3.out.2.1.trans hw5))
      clear h5 hw5
      go_wp2_with fail
      go_roundw
      case rel => exact ⟨k + 1, v5, by omega, by go_num, by rw [Hnext.out.1, ← List.append_assoc]; exact H5.out.1, H5.out.2⟩
      case measure => simp [intOf]; omega
    · have hd : decide ((k : Int) < m) = false := by simp; omega
      obtain rfl : k = m := by omega
      have Hfin := Lib.hid (And.intro hbw hww)
      clear hbw hww
      go_wp2_with fail
      go_end0
      exact ⟨rfl, v', Hfin.out⟩
theorem putStar_take (L : List Vl) (k : Nat) (hk : k < L.length) : ((L.take (k + 1)).map Vl.put).flatMap (fun p => 48 :: p) = ((L.take k).map Vl.put).flatMap (fun p => 48 :: p) ++ 48 :: L[k].put := by
  rw [List.take_succ_eq_append_getElem hk, List.map_append, List.flatMap_append]; simp
theorem putStar_pre (L : List Vl) (k : Nat) : (((L.take k).map Vl.put).flatMap (fun p => 48 :: p)).length ≤ ((L.map Vl.put).flatMap (fun p => 48 :: p)).length := by
  have e : L.map Vl.put = (L.take k).map Vl.put ++ (L.drop k).map Vl.put := by rw [← List.map_append, List.take_append_drop]
  rw [e, List.flatMap_append, List.length_append]; omega
theorem put_of (k : Int) (z : Nat) (l : List Vl) : (k = 3 → (Vl.mk k z l).put = ((l.take 2).map Vl.put).flatten) ∧ (k = 4 → (Vl.mk k z l).put = 48 :: ((l.take 1).map Vl.put).flatten) ∧ (k = 5 → (Vl.mk k z l).put = 49 :: ((l.take 1).map Vl.put).flatten) ∧
    (k = 6 → (Vl.mk k z l).put = (l.map Vl.put).flatMap (fun p => 48 :: p) ++ [49]) ∧ (k = 7 → (Vl.mk k z l).put = ((l.take 1).map Vl.put).flatten) ∧ (¬ (k = 3 ∨ k = 4 ∨ k = 5 ∨ k = 6 ∨ k = 7) → (Vl.mk k z l).put = []) := by
  refine ⟨?_, ?_, ?_, ?_, ?_, ?_⟩
  · rintro rfl
    rw [put_mk, show cntN 3 l.length = min 2 l.length from rfl, ← List.take_eq_take_min]; rfl
  · rintro rfl
    rw [put_mk, show cntN 4 l.length = min 1 l.length from rfl, ← List.take_eq_take_min]; rfl
  · rintro rfl
    rw [put_mk, show cntN 5 l.length = min 1 l.length from rfl, ← List.take_eq_take_min]; rfl
  · rintro rfl
    rw [put_mk, show cntN 6 l.length = l.length from rfl, List.take_length]; rfl
  · rintro rfl
    rw [put_mk, show cntN 7 l.length = min 1 l.length from rfl, ← List.take_eq_take_min]; rfl
  · intro h
    rw [put_mk, show cntN k l.length = 0 from by unfold cntN; rw [if_neg (by omega), if_neg (by omega), if_neg (by omega)]]
    unfold putT
    rw [if_neg (by omega), if_neg (by omega), if_neg (by omega)]; rfl
set_option maxHeartbeats 8000000 in
theorem put_step {W0 : World} (x : Vl) (hx : ∀ y ∈ x.nodes, PutOk W0 y) : PutOk W0 x := by
  intro cs L v w hat0 hb hbld hlen
  obtain ⟨k, z, l⟩ := x
  obtain ⟨W, hWe⟩ : ∃ W, W = w.alloc (.cells cs.toArray 25) := ⟨_, rfl⟩
  have hbox : ValIn W w.heap.size cs.toArray := by rw [hWe]; exact World.alloc_heap_new w _
  have hal : Below w.heap.size w W := by rw [hWe]; exact K.alloc_below w _
  have hB : W0.heap.size ≤ w.heap.size := Nat.le_of_lt hbld.lt
  have hlt := hbld.lt
  have hne : w.heap.size ≠ W0.heap.size := by omega
  rw [at_mk] at hat0
  obtain ⟨_, _, a, cap, rfl, hmax, hl⟩ := hat0
  have hx : ∀ y ∈ l, PutOk W0 y := hx
  obtain ⟨p3, p4, p5, p6, p7, p0⟩ := put_of k z l
  generalize hP : (Vl.mk k z l).put = P at *
  have hm : Bld W W0.heap.size W0.heap.size L v ∧ Wrote W0.heap.size W0.heap.size w v W v ∧ Below W0.heap.size W0 W := ⟨hbld.later hal, Wrote.later v hal hB, hb.trans (hal.mono hB)⟩
  have c0 := cells_at hbox 0
  have c2 := cells_at hbox 2
  simp only [List.getElem?_toArray, List.getElem?_cons_zero, List.getElem?_cons_succ] at c0 c2
  have Hm := Lib.hid hm
  have Hb0 := Lib.hid hb
  have Hlen := Lib.hid hlen
  have HB := Lib.hid (show W0.heap.size ≤ W.heap.size from Nat.le_trans hB hal.size)
  have Hne := Lib.hid hne
  have Hin := Lib.hid hbox
  have hlm : (l.length : Int) ≤ 9223372036854775807 := by unfold maxLen at hmax; omega
  clear hP hm hb hbld hlen hB hlt hne hbox hal
  by_cases h3 : k = 3
  · have HP := Lib.hid (p3 h3)
    subst h3
    clear p3 p4 p5 p6 p7 p0
    go_enter Try.func21, Try.ntmps21
    go_upto_region 1 with fail
    rw [← hWe]
    clear hWe
    go_wp2_with fail
    refine (wfirst_walk l hx a cap hmax 2 (by decide) hl L v W Hm.out.2.2 Hm.out.1 (by have := Hlen.out; rw [HP.out] at this; omega)).mono ?_
    rintro e w2 ⟨rfl, v2, h2, hw2⟩
    have H2 := Lib.hid (And.intro h2 (Hm.out.2.1.trans hw2))
    clear h2 hw2
    go_wp2_with fail
    go_end0
    rw [HP.out]
    exact ⟨rfl, v2, H2.out⟩
  by_cases h4 : k = 4
  · have HP := Lib.hid (p4 h4)
    subst h4
    clear p3 p4 p5 p6 p7 p0 h3
    go_enter Try.func21, Try.ntmps21
    go_upto_region 1 with fail
    rw [← hWe]
    clear hWe
    go_wp2_with fail
    refine (write_byte W0.heap.size W0.heap.size L v 48 W Hm.out.1 (by have := Hlen.out; unfold most at this; omega) HB.out).mono ?_
    rintro e w2 ⟨rfl, v2, h2, hw2⟩
    have hi2 : ValIn w2 w.heap.size _ := (hw2.keep w.heap.size (lt_of_block Hin.out) Hne.out (Hm.out.1.ownKind Hin.out (by decide))).trans Hin.out
    have d2 := cells_at hi2 2
    simp only [List.getElem?_toArray, List.getElem?_cons_zero, List.getElem?_cons_succ] at d2
    have hf2 := wfirst_walk l hx a cap hmax 1 (by decide) hl (L ++ [48]) v2 w2 (Hm.out.2.2.trans hw2.below) h2 (by have := Hlen.out; rw [HP.out, List.length_cons] at this; rw [List.length_append, List.length_singleton]; omega)
    have H2 := Lib.hid (And.intro hf2 (Hm.out.2.1.trans hw2))
    clear h2 hw2 hi2 hf2
    go_wp2_with fail
    refine H2.out.1.mono ?_
    rintro e w3 ⟨rfl, v3, h3, hw3⟩
    have H3 := Lib.hid (And.intro h3 (H2.out.2.trans hw3))
    clear h3 hw3
    go_wp2_with fail
    go_end0
    refine ⟨rfl, v3, ?_, H3.out.2⟩
    rw [HP.out, List.append_cons]
    exact H3.out.1
  by_cases h5 : k = 5
  · have HP := Lib.hid (p5 h5)
    subst h5
    clear p3 p4 p5 p6 p7 p0 h3 h4
    go_enter Try.func21, Try.ntmps21
    go_upto_region 1 with fail
    rw [← hWe]
    clear hWe
    go_wp2_with fail
    refine (write_byte W0.heap.size W0.heap.size L v 49 W Hm.out.1 (by have := Hlen.out; unfold most at this; omega) HB.out).mono ?_
    rintro e w2 ⟨rfl, v2, h2, hw2⟩
    have hi2 : ValIn w2 w.heap.size _ := (hw2.keep w.heap.size (lt_of_block Hin.out) Hne.out (Hm.out.1.ownKind Hin.out (by decide))).trans Hin.out
    have d2 := cells_at hi2 2
    simp only [List.getElem?_toArray, List.getElem?_cons_zero, List.getElem?_cons_succ] at d2
    have hf2 := wfirst_walk l hx a cap hmax 1 (by decide) hl (L ++ [49]) v2 w2 (Hm.out.2.2.trans hw2.below) h2 (by have := Hlen.out; rw [HP.out, List.length_cons] at this; rw [List.length_append, List.length_singleton]; omega)
    have H2 := Lib.hid (And.intro hf2 (Hm.out.2.1.trans hw2))
    clear h2 hw2 hi2 hf2
    go_wp2_with fail
    refine H2.out.1.mono ?_
    rintro e w3 ⟨rfl, v3, h3, hw3⟩
    have H3 := Lib.hid (And.intro h3 (H2.out.2.trans hw3))
    clear h3 hw3
    go_wp2_with fail
    go_end0
    refine ⟨rfl, v3, ?_, H3.out.2⟩
    rw [HP.out, List.append_cons]
    exact H3.out.1
  by_cases h6 : k = 6
  · have HP := Lib.hid (p6 h6)
    subst h6
    clear p3 p4 p5 p6 p7 p0 h3 h4 h5
    obtain ⟨ln, hln⟩ : ∃ ln, ln = l.length := ⟨_, rfl⟩
    rw [← hln] at c2 hlm hmax hWe
    rw [← hln]
    have HN := Lib.hid hln
    clear hln
    go_enter Try.func21, Try.ntmps21
    go_upto_region 1 with fail
    rw [← hWe]
    clear hWe
    go_wp2_with fail
    go_loopw [35] (fun i wr => ∃ (k : Nat) (v' : Value), k ≤ ln ∧ i = .int .i64 k ∧ Bld wr W0.heap.size W0.heap.size (L ++ ((l.take k).map Vl.put).flatMap (fun p => 48 :: p)) v' ∧ Wrote W0.heap.size W0.heap.size w v wr v') (fun i _ => ln - (intOf i).toNat)
    case atStart => exact ⟨0, v, by omega, rfl, by simpa using Hm.out.1, Hm.out.2.1⟩
    case round =>
      obtain ⟨k, v', hk, rfl, hbw, hww⟩ := hrel
      by_cases hkn : k < ln
      · have hd : decide ((k : Int) < ln) = true := by simp; omega
        have hkL : k < l.length := by have := HN.out; omega
        obtain ⟨bn, off, rfl, hcap, hbn, hnodes⟩ := hl.resolve_left (by omega)
        obtain ⟨cs, hcells, hat⟩ := vals_get W0 bn l off hnodes k hkL
        have hbr : Below W0.heap.size W0 wr := Hb0.out.trans hww.below
        have h9 : Val3 wr bn (off + k * 3) cs := hcells.below hbn hbr
        obtain ⟨kq, zq, aq, lenq, capq, rfl⟩ := at_lit hat
        obtain ⟨y, hy⟩ : ∃ y, y = l[k] := ⟨_, rfl⟩
        rw [← hy] at hat
        have hyL : y ∈ l := by rw [hy]; exact List.getElem_mem hkL
        have hnext := putStar_take l k hkL
        rw [← hy] at hnext
        have htk := putStar_pre l (k + 1)
        have hbound : (L ++ ((l.take k).map Vl.put).flatMap (fun p => 48 :: p)).length + 1 + y.put.length + 8 ≤ most := by have := Hlen.out; rw [HP.out, List.length_append] at this; rw [hnext, List.length_append, List.length_cons] at htk; rw [List.length_append]; omega
        have Hnext := Lib.hid (And.intro hnext hbound)
        have H9 := Lib.hid h9
        have Hat := Lib.hid hat
        have HyL := Lib.hid (hx y hyL)
        have Hbw := Lib.hid hbw
        have Hww := Lib.hid hww
        have Hbr := Lib.hid hbr
        have hBr : W0.heap.size ≤ wr.heap.size := Nat.le_of_lt hbw.lt
        have HBr := Lib.hid hBr
        have hn0 : ValIn (wr.alloc (.cells #[.int .i64 0, .int .u8 0, .slice none 0 0] 25)) wr.heap.size #[.int .i64 0, .int .u8 0, .slice none 0 0] := World.alloc_heap_new wr _
        have hal : Below wr.heap.size wr (wr.alloc (.cells #[.int .i64 0, .int .u8 0, .slice none 0 0] 25)) := (Below.refl _ _).alloc (Nat.le_refl _) _
        have Hn0 := Lib.hid (And.intro hn0 hal)
        clear hnext hbound htk h9 hat hy hyL hbw hww hbr hBr hn0 hal hcells hnodes hkL hbn hx hl
        go_upto_region 14 with (first | (refine wpList_load_val rfl _ rfl bn (off + k * 3) _ rfl H9.out ?_) | (refine wpList_store_val rfl _ _ rfl wr.heap.size _ #[.int .i64 kq, .int .u8 zq, .slice aq lenq capq] rfl rfl Hn0.out.1 rfl rfl (by simp [Value.oneCell']) ?_; refine Hid.out ?_))
        refine Lib.hid ?_
        intro w3 hn3 ho3
        have hb3 := ho3.below Hn0.out.2 (Nat.le_refl _)
        have hlt3 : wr.heap.size < w3.heap.size := lt_of_block hn3
        have hW3 := Lib.hid (And.intro (Hbw.out.later hb3) (And.intro (Hww.out.trans (Wrote.later v' hb3 HBr.out)) (Hbr.out.trans (hb3.mono HBr.out))))
        have Hne3 := Lib.hid (show wr.heap.size ≠ W0.heap.size by have := Hbw.out.lt; omega)
        have Hn3 := Lib.hid hn3
        have Hlt3 := Lib.hid hlt3
        clear hn3 ho3 hb3 Hn0 H9 Hbw Hww Hbr hlt3
        have Hwb := Lib.hid (write_byte W0.heap.size W0.heap.size _ v' 48 w3 hW3.out.1 (by have h2 := Hnext.out.2; unfold most at h2; omega) (Nat.le_trans HBr.out (Nat.le_of_lt Hlt3.out)))
        go_wp2_with fail
        refine Hwb.out.mono ?_
        rintro e w4 ⟨rfl, v4, h4, hw4⟩
        have hn4 : ValIn w4 wr.heap.size _ := (hw4.keep wr.heap.size Hlt3.out Hne3.out (hW3.out.1.ownKind Hn3.out (by decide))).trans Hn3.out
        have Hb9 := Lib.hid (val3_in (cs := [.int .i64 kq, .int .u8 zq, .slice aq lenq capq]) hn4 rfl)
        have H4 := Lib.hid (And.intro h4 (And.intro (hW3.out.2.1.trans hw4) (hW3.out.2.2.trans hw4.below)))
        clear hn4 h4 hw4
        go_wp2_with (first | (refine wpList_load_val rfl _ rfl wr.heap.size 0 _ rfl Hb9.out ?_))
        refine (HyL.out _ _ v4 w4 Hat.out H4.out.2.2 H4.out.1 (by have h2 := Hnext.out.2; simp only [List.length_append, List.length_singleton] at h2 ⊢; omega)).mono ?_
        rintro e w5 ⟨rfl, v5, h5, hw5⟩
        have H5 := Lib.hid (And.intro h5 (H4.out.2.1.trans hw5))
        clear h5 hw5
        go_wp2_with fail
        go_roundw
        case rel => exact ⟨k + 1, v5, by omega, by go_num, by have h := H5.out.1; rw [Hnext.out.1]; rw [List.append_assoc, List.append_assoc] at h; exact h, H5.out.2⟩
        case measure => simp [intOf]; omega
      · have hd : decide ((k : Int) < ln) = false := by simp; omega
        obtain rfl : k = ln := by omega
        have hall : l.take k = l := List.take_of_length_le (by rw [HN.out]; exact Nat.le_refl _)
        rw [hall] at hbw
        have Hfin := Lib.hid (And.intro hbw hww)
        have Hw1 := Lib.hid (write_byte W0.heap.size W0.heap.size _ v' 49 wr hbw (by have := Hlen.out; rw [HP.out] at this; simp only [List.length_append, List.length_singleton, most] at this ⊢; omega) (Nat.le_of_lt hbw.lt))
        clear hall hbw hww
        go_wp2_with fail
        refine Hw1.out.mono ?_
        rintro e w3 ⟨rfl, v3, h3, hw3⟩
        have H3 := Lib.hid (And.intro h3 (Hfin.out.2.trans hw3))
        clear h3 hw3
        go_wp2_with fail
        go_end0
        refine ⟨rfl, v3, ?_, H3.out.2⟩
        rw [HP.out, ← List.append_assoc]
        exact H3.out.1
  by_cases h7 : k = 7
  · have HP := Lib.hid (p7 h7)
    subst h7
    clear p3 p4 p5 p6 p7 p0 h3 h4 h5 h6
    go_enter Try.func21, Try.ntmps21
    go_upto_region 1 with fail
    rw [← hWe]
    clear hWe
    go_wp2_with fail
    refine (wfirst_walk l hx a cap hmax 1 (by decide) hl L v W Hm.out.2.2 Hm.out.1 (by have := Hlen.out; rw [HP.out] at this; omega)).mono ?_
    rintro e w2 ⟨rfl, v2, h2, hw2⟩
    have H2 := Lib.hid (And.intro h2 (Hm.out.2.1.trans hw2))
    clear h2 hw2
    go_wp2_with fail
    go_end0
    rw [HP.out]
    exact ⟨rfl, v2, H2.out⟩
  · have HP := Lib.hid (p0 (by omega))
    have e3 : (k == 3) = false := by simp [h3]
    have e4 : (k == 4) = false := by simp [h4]
    have e5 : (k == 5) = false := by simp [h5]
    have e6 : (k == 6) = false := by simp [h6]
    have e7 : (k == 7) = false := by simp [h7]
    clear p3 p4 p5 p6 p7 p0 h3 h4 h5 h6 h7
    go_enter Try.func21, Try.ntmps21
    go_upto_region 1 with fail
    rw [← hWe]
    clear hWe
    go_wp2_with fail
    go_end0
    rw [HP.out, List.append_nil]
    exact ⟨rfl, v, Hm.out.1, Hm.out.2.1⟩
theorem put_any {W0 : World} : ∀ (m : Nat) (x : Vl), x.count ≤ m → PutOk W0 x
  | 0, x, hm => by have := Vl.count_pos x; omega
  | m + 1, x, hm => put_step x fun y hy => put_any m y (by
    obtain ⟨k, z, l⟩ := x
    have := counts_mem (show y ∈ l from hy)
    rw [count_mk] at hm; omega)
mutual
theorem put_le : ∀ x : Vl, x.put.length + 1 ≤ 3 * x.count
  | .mk k b l => by
    have h := puts_le l
    have h1 := puts_le_take l 1
    have h2 := puts_le_take l 2
    obtain ⟨p3, p4, p5, p6, p7, p0⟩ := put_of k b l
    rw [count_mk]
    by_cases h3 : k = 3
    · rw [p3 h3]; omega
    by_cases h4 : k = 4
    · rw [p4 h4, List.length_cons]; omega
    by_cases h5 : k = 5
    · rw [p5 h5, List.length_cons]; omega
    by_cases h6 : k = 6
    · rw [p6 h6, List.length_append, List.length_singleton]; omega
    by_cases h7 : k = 7
    · rw [p7 h7]; omega
    · rw [p0 (by omega), List.length_nil]; omega
theorem puts_le : ∀ l : List Vl, ((l.map Vl.put).flatMap (fun p => 48 :: p)).length ≤ 3 * counts l
  | [] => by simp
  | x :: l => by
    have := put_le x
    have := puts_le l
    rw [List.map_cons, List.flatMap_cons, List.length_append, List.length_cons, counts_cons]; omega
theorem puts_le_take : ∀ (l : List Vl) (n : Nat), (((l.take n).map Vl.put).flatten).length ≤ 3 * counts l
  | [], n => by simp
  | x :: l, 0 => by simp
  | x :: l, n + 1 => by
    have := put_le x
    have := puts_le_take l n
    rw [List.take_succ_cons, List.map_cons, List.flatten_cons, List.length_append, counts_cons]; omega
end
mutual
theorem put_lt : ∀ (x : Vl), ∀ c ∈ x.put, c = 48 ∨ c = 49
  | .mk k b l => by
    intro c hc
    obtain ⟨p3, p4, p5, p6, p7, p0⟩ := put_of k b l
    have h := puts_lt l
    have hfl : ∀ n, c ∈ ((l.take n).map Vl.put).flatten → c = 48 ∨ c = 49 := fun n hc => by
      rw [List.mem_flatten] at hc
      obtain ⟨q, hq, hc⟩ := hc
      rw [List.mem_map] at hq
      obtain ⟨y, hy, rfl⟩ := hq
      exact h y (List.mem_of_mem_take hy) c hc
    by_cases h3 : k = 3
    · rw [p3 h3] at hc; exact hfl _ hc
    by_cases h4 : k = 4
    · rw [p4 h4, List.mem_cons] at hc; exact hc.elim .inl (hfl _)
    by_cases h5 : k = 5
    · rw [p5 h5, List.mem_cons] at hc; exact hc.elim .inr (hfl _)
    by_cases h6 : k = 6
    · rw [p6 h6, List.mem_append, List.mem_singleton] at hc
      rcases hc with hc | hc
      · rw [List.mem_flatMap] at hc
        obtain ⟨q, hq, hc⟩ := hc
        rw [List.mem_map] at hq
        obtain ⟨y, hy, rfl⟩ := hq
        rw [List.mem_cons] at hc
        exact hc.elim .inl (h y hy c)
      · exact .inr hc
    by_cases h7 : k = 7
    · rw [p7 h7] at hc; exact hfl _ hc
    · rw [p0 (by omega)] at hc; cases hc
theorem puts_lt : ∀ (l : List Vl), ∀ y ∈ l, ∀ c ∈ y.put, c = 48 ∨ c = 49
  | [], y, hy => by cases hy
  | x :: l, y, hy => by
    rcases List.mem_cons.1 hy with e | hy
    · rw [e]; exact put_lt x
    · exact puts_lt l y hy
end
theorem put_byte (x : Vl) : ∀ c ∈ x.put, c < 256 := fun c hc => by have := put_lt x c hc; omega
set_option maxHeartbeats 4000000 in
theorem put_walk {x : Vl} {cs : List Value} {w : World} (hat : Vl.at w x cs) (hc : x.put.length + 8 ≤ most) :
    Calls Try.prog 18 #[.agg cs.toArray] w (TextIs w x.put) := by
  obtain ⟨W, hW⟩ : ∃ W, W = w.alloc (.cells cs.toArray 25) := ⟨_, rfl⟩
  have hal : Below w.heap.size w W := by rw [hW]; exact K.alloc_below w _
  have hbox : ValIn W w.heap.size cs.toArray := by rw [hW]; exact World.alloc_heap_new w _
  have hb3 := val3_in (cs := cs) hbox (at_len hat)
  have hal2 : Below W.heap.size W (W.alloc (.cells #[.pointer none, .slice none 0 0] 46)) := K.alloc_below W _
  have hbx : Val3 (W.alloc (.cells #[.pointer none, .slice none 0 0] 46)) w.heap.size 0 cs := hb3.below (by rw [hW]; simp) hal2
  have Hlt := Lib.hid (put_byte x)
  have hwr := put_any (W0 := W) x.count x (Nat.le_refl _) cs [] _ _ (Vl.at_below hal (Nat.le_refl _) _ _ hat) hal2 (bld_fresh W) (by simpa using hc)
  have Hc := Lib.hid hwr
  have Hal := Lib.hid (And.intro hal hal2)
  obtain ⟨kq, zq, aq, lenq, capq, rfl⟩ := at_lit hat
  generalize x.put = T at *
  clear hwr hc hal hal2 hbox hb3 hat
  go_enter Try.func18, Try.ntmps18
  go_upto_region 1 with fail
  rw [← hW]
  clear hW
  go_wp2_with (first | (refine wpList_load_val rfl _ rfl w.heap.size 0 _ rfl hbx ?_))
  refine Hc.out.mono ?_
  rintro e w2 ⟨rfl, v2, h2, hw2⟩
  rw [List.nil_append] at h2
  have H2 := Lib.hid (And.intro h2 (Hal.out.2.trans hw2.below))
  clear h2 hw2
  go_wp2_with fail
  refine (bld_string _ _ _ v2 _ H2.out.1 Hlt.out (Nat.le_of_lt H2.out.1.lt)).mono ?_
  rintro e w3 ⟨rfl, hb3⟩
  have Hb3 := Lib.hid hb3
  clear hb3
  go_wp2_with fail
  go_ret
  exact ⟨⟨_, rfl, nats_bytes Hlt.out⟩, Hal.out.1.trans ((H2.out.2.trans Hb3.out).mono Hal.out.1.size)⟩
end V
end Go.Proofs.Ytblgjcolmaidlaa
