/- value.write, writeList, Text, walked for every value that is not too great. -/
import Derived.Test.YtklmomgccmekkaaValOps
import Derived.Test.YtklmomgccmekkaaBuilder
import Derived.Deep.DeepCutAuto
namespace Go.Proofs.Ytklmomgccmekkaa
namespace V
set_option maxRecDepth 100000
open Go.RowKit
theorem txt_cntd (x : Vl) : x.txt = partsT x.kind x.byte ((cntd x).map Vl.txt) := by
  cases x with
  | mk k z l => rw [txt_mk]; rfl
theorem join_append (p : List Nat) : ∀ ps : List (List Nat), joinT (ps ++ [p]) = joinT ps ++ ((if ps = [] then [] else [44]) ++ p)
  | [] => rfl
  | [x] => by simp [joinT]
  | x :: y :: ps => by
    have h := join_append p (y :: ps)
    rw [List.cons_append, List.cons_append, joinT, ← List.cons_append, h, joinT, if_neg (List.cons_ne_nil _ _), if_neg (List.cons_ne_nil _ _)]
    simp
theorem join_take (L : List Vl) (k : Nat) (hk : k < L.length) : joinT ((L.take (k + 1)).map Vl.txt) = joinT ((L.take k).map Vl.txt) ++ ((if k = 0 then [] else [44]) ++ L[k].txt) := by
  rw [List.take_succ_eq_append_getElem hk, List.map_append, List.map_cons, List.map_nil, join_append]
  congr 2
  by_cases h : k = 0
  · subst h; simp
  · rw [if_neg h, if_neg]
    intro h2
    have := congrArg List.length h2
    rw [List.length_map, List.length_take, List.length_nil] at this
    omega
theorem join_pre (L : List Vl) (k : Nat) : (joinT ((L.take k).map Vl.txt)).length ≤ (joinT (L.map Vl.txt)).length := by
  by_cases hk : L.length ≤ k
  · rw [List.take_of_length_le hk]; exact Nat.le_refl _
  · have h := join_pre L (k + 1)
    rw [join_take L k (by omega), List.length_append] at h
    exact Nat.le_trans (Nat.le_add_right _ _) h
termination_by L.length - k
theorem hexD_lt (b : Nat) (h : b < 16) : hexD b < 256 := by unfold hexD; split <;> omega
theorem join_lt {ps : List (List Nat)} (h : ∀ p ∈ ps, ∀ c ∈ p, c < 256) : ∀ c ∈ joinT ps, c < 256 := by
  induction ps with
  | nil => intro c hc; simp [joinT] at hc
  | cons x ps ih =>
    cases ps with
    | nil => exact h x (by simp)
    | cons y ps =>
      intro c hc
      rw [joinT, List.mem_append, List.mem_cons] at hc
      rcases hc with hc | rfl | hc
      · exact h x (by simp) c hc
      · decide
      · exact ih (fun p hp => h p (by simp [hp])) c hc
theorem parts_lt {k : Int} {b : Nat} (hb : b < 256) {ps : List (List Nat)} (h : ∀ p ∈ ps, ∀ c ∈ p, c < 256) : ∀ c ∈ partsT k b ps, c < 256 := by
  have hj := join_lt h
  intro c hc
  unfold partsT at hc
  split at hc
  · simp at hc; omega
  split at hc
  · unfold hexT at hc
    rw [List.mem_cons, List.mem_singleton] at hc
    rcases hc with rfl | rfl
    · exact hexD_lt _ (by omega)
    · exact hexD_lt _ (by omega)
  split at hc
  · rw [List.mem_cons, List.mem_append] at hc
    rcases hc with rfl | hc | hc
    · decide
    · exact hj c hc
    · split at hc <;> simp at hc <;> omega
  split at hc
  · rw [List.mem_cons] at hc
    rcases hc with rfl | hc
    · decide
    · exact hj c hc
  split at hc
  · rw [List.mem_cons] at hc
    rcases hc with rfl | hc
    · decide
    · exact hj c hc
  split at hc
  · rw [List.mem_cons, List.mem_append] at hc
    rcases hc with rfl | hc | hc
    · decide
    · exact hj c hc
    · simp at hc; omega
  split at hc
  · rw [List.mem_cons, List.mem_append] at hc
    rcases hc with rfl | hc | hc
    · decide
    · exact hj c hc
    · simp at hc; omega
  · simp at hc; omega
/-- what a writer promises -/
def Writes (b : Nat) (w : World) (v : Value) (l : List Nat) (e : Ending) (w' : World) : Prop := e = .returned (.tuple #[]) ∧ ∃ v', Bld w' b b l v' ∧ Wrote b b w v w' v'
def most : Nat := 140737488355000
/-- the world in which the builder was made; writing of one value -/
def WriteOk (W0 : World) (x : Vl) : Prop := ∀ (cs : List Value) (l : List Nat) (v : Value) (w : World), Vl.at W0 x cs → Below W0.heap.size W0 w → Bld w W0.heap.size W0.heap.size l v → l.length + x.txt.length + 8 ≤ most →
  Calls Try.prog 48 #[.pointer (some ⟨W0.heap.size, 0, none⟩), .agg cs.toArray] w (Writes W0.heap.size w v (l ++ x.txt))
theorem room1 {a b c d m : Nat} (h : a + (b + c + d) + 8 ≤ m) : a + b + 8 ≤ m := by omega
set_option maxHeartbeats 4000000 in
theorem wlist_walk {W0 : World} (L : List Vl) (hL : ∀ y ∈ L, WriteOk W0 y) (a : Option Addr) (cap : Nat) (hmax : L.length ≤ maxLen)
    (hmem : L.length = 0 ∨ ∃ b off, a = some ⟨b, off, none⟩ ∧ L.length ≤ cap ∧ b < W0.heap.size ∧ valsAt W0 L b off) (before after : ByteArray) (l : List Nat) (v : Value) (w : World) (hb : Below W0.heap.size W0 w) (hbld : Bld w W0.heap.size W0.heap.size l v)
    (hlen : l.length + before.size + (joinT (L.map Vl.txt)).length + after.size + 8 ≤ most) :
    Calls Try.prog 72 #[.pointer (some ⟨W0.heap.size, 0, none⟩), .string before, .slice a L.length cap, .string after] w (Writes W0.heap.size w v (l ++ nats before ++ joinT (L.map Vl.txt) ++ nats after)) := by
  obtain ⟨n, hn⟩ : ∃ n, n = L.length := ⟨_, rfl⟩
  rw [← hn]
  have hnm : n ≤ maxLen := by rw [hn]; exact hmax
  have HN := Lib.hid hn
  have HLen := Lib.hid hlen
  have Hb := Lib.hid hb
  have Hmem := Lib.hid hmem
  have HL := Lib.hid hL
  have Hw0 := Lib.hid (write_text W0.heap.size W0.heap.size l v before w hbld (by unfold most at hlen; omega) (Nat.le_of_lt hbld.lt))
  have Hbs := Lib.hid (Nat.le_of_lt hbld.lt)
  clear hn hlen hb hbld hmem hL hmax
  unfold maxLen at hnm
  go_enter Try.func72, Try.ntmps72
  go_wp2_with fail
  refine Hw0.out.mono ?_
  rintro e w1 ⟨rfl, v1, h1, hw1⟩
  have H1 := Lib.hid (And.intro h1 hw1)
  clear h1 hw1
  go_wp2_with fail
  go_loopw [15] (fun i wr => ∃ (k : Nat) (v' : Value), k ≤ n ∧ i = .int .i64 k ∧ Bld wr W0.heap.size W0.heap.size (l ++ nats before ++ joinT ((L.take k).map Vl.txt)) v' ∧ Wrote W0.heap.size W0.heap.size w v wr v') (fun i _ => n - (intOf i).toNat)
  case atStart => exact ⟨0, v1, by omega, rfl, by rw [List.take_zero, List.map_nil]; simpa [joinT] using H1.out.1, H1.out.2⟩
  case round =>
    obtain ⟨k, v', hk, rfl, hbw, hww⟩ := hrel
    by_cases hkn : k < n
    · have hd : decide ((k : Int) < n) = true := by simp; omega
      have hkL : k < L.length := by rw [← HN.out]; exact hkn
      obtain ⟨bn, off, rfl, hcap, hbn, hnodes⟩ := Hmem.out.resolve_left (by omega)
      obtain ⟨cs, hcells, hat⟩ := vals_get W0 bn L off hnodes k hkL
      have hbr : Below W0.heap.size W0 wr := Hb.out.trans hww.below
      have h9 : Val3 wr bn (off + k * 3) cs := hcells.below hbn hbr
      obtain ⟨kq, zq, aq, lenq, capq, rfl⟩ := at_lit hat
      obtain ⟨y, hy⟩ : ∃ y, y = L[k] := ⟨_, rfl⟩
      rw [← hy] at hat
      have hyL : y ∈ L := by rw [hy]; exact List.getElem_mem hkL
      have hnext := join_take L k hkL
      rw [← hy] at hnext
      have htk := join_pre L (k + 1)
      have hbound : (l ++ nats before ++ joinT ((L.take (k + 1)).map Vl.txt)).length + 8 ≤ most := by have := HLen.out; simp only [List.length_append, nats_length]; omega
      have Hnext := Lib.hid (And.intro hnext hbound)
      have H9 := Lib.hid h9
      have Hat := Lib.hid hat
      have HyL := Lib.hid hyL
      have Hbw := Lib.hid hbw
      have Hww := Lib.hid hww
      have Hbr := Lib.hid hbr
      have hBr : W0.heap.size ≤ wr.heap.size := Nat.le_of_lt hbw.lt
      have HBr := Lib.hid hBr
      have hn0 : ValIn (wr.alloc (.cells #[.int .i64 0, .int .u8 0, .slice none 0 0] 35)) wr.heap.size #[.int .i64 0, .int .u8 0, .slice none 0 0] := World.alloc_heap_new wr _
      have hal : Below wr.heap.size wr (wr.alloc (.cells #[.int .i64 0, .int .u8 0, .slice none 0 0] 35)) := (Below.refl _ _).alloc (Nat.le_refl _) _
      have Hn0 := Lib.hid (And.intro hn0 hal)
      clear hnext hbound htk h9 hat hy hyL hbw hww hbr hBr hn0 hal hcells hnodes hkL hbn
      go_upto_region 4 with (first | (refine wpList_load_val rfl _ rfl bn (off + k * 3) _ rfl H9.out ?_) | (refine wpList_store_val rfl _ _ rfl wr.heap.size _ #[.int .i64 kq, .int .u8 zq, .slice aq lenq capq] rfl rfl Hn0.out.1 rfl rfl (by simp [Value.oneCell']) ?_; refine Hid.out ?_))
      refine Lib.hid ?_
      intro w3 hn3 ho3
      have hb3 := ho3.below Hn0.out.2 (Nat.le_refl _)
      have hlt3 : wr.heap.size < w3.heap.size := lt_of_block hn3
      have hW3 := Lib.hid (And.intro (Hbw.out.later hb3) (And.intro (Hww.out.trans (Wrote.later v' hb3 HBr.out)) (Hbr.out.trans (hb3.mono HBr.out))))
      have hne3 : wr.heap.size ≠ W0.heap.size := by have := Hbw.out.lt; omega
      have Hne3 := Lib.hid hne3
      have Hn3 := Lib.hid hn3
      have Hlt3 := Lib.hid hlt3
      clear hn3 ho3 hb3 Hn0 H9 Hbw Hww Hbr hlt3 hne3
      by_cases hk0 : k = 0
      · subst hk0
        have hn4 := Hn3.out
        have Hb9 := Lib.hid (val3_in (cs := [.int .i64 kq, .int .u8 zq, .slice aq lenq capq]) hn4 rfl)
        clear hn4
        have Hnx := Lib.hid (show l ++ nats before ++ joinT ((L.take (0 + 1)).map Vl.txt) = l ++ nats before ++ joinT ((L.take 0).map Vl.txt) ++ y.txt from by rw [Hnext.out.1, if_pos rfl, List.nil_append]; simp only [List.append_assoc])
        go_wp2_with (first | (refine wpList_load_val rfl _ rfl wr.heap.size 0 _ rfl Hb9.out ?_))
        refine (HL.out y HyL.out _ _ v' w3 Hat.out hW3.out.2.2 hW3.out.1 (by have h2 := Hnext.out.2; rw [Hnx.out] at h2; simp only [List.length_append] at h2 ⊢; omega)).mono ?_
        rintro e w5 ⟨rfl, v5, h5, hw5⟩
        have H5 := Lib.hid (And.intro h5 (hW3.out.2.1.trans hw5))
        clear h5 hw5
        go_wp2_with fail
        go_roundw
        case rel => exact ⟨0 + 1, v5, by omega, by go_num, by rw [Hnx.out]; exact H5.out.1, H5.out.2⟩
        case measure => simp [intOf]; omega
      · have hkp : decide ((k : Int) > 0) = true := by simp; omega
        have hkp' : decide ((0 : Int) < k) = true := by simp; omega
        have hkp2 : decide (0 < k) = true := by simp; omega
        have Hk0 := Lib.hid hk0
        have Hnx := Lib.hid (show l ++ nats before ++ joinT ((L.take (k + 1)).map Vl.txt) = l ++ nats before ++ joinT ((L.take k).map Vl.txt) ++ [44] ++ y.txt from by rw [Hnext.out.1, if_neg hk0]; simp only [List.append_assoc])
        have Hwb := Lib.hid (write_byte W0.heap.size W0.heap.size _ v' 44 w3 hW3.out.1 (by have h2 := Hnext.out.2; rw [Hnx.out] at h2; simp only [List.length_append, most] at h2 ⊢; omega) (Nat.le_trans HBr.out (Nat.le_of_lt Hlt3.out)))
        clear hk0
        go_wp2_with fail
        refine Hwb.out.mono ?_
        rintro e w4 ⟨rfl, v4, h4, hw4⟩
        have hn4 : ValIn w4 wr.heap.size _ := (hw4.keep wr.heap.size Hlt3.out Hne3.out (hW3.out.1.ownKind Hn3.out (by decide))).trans Hn3.out
        have Hb9 := Lib.hid (val3_in (cs := [.int .i64 kq, .int .u8 zq, .slice aq lenq capq]) hn4 rfl)
        have H4 := Lib.hid (And.intro h4 (And.intro (hW3.out.2.1.trans hw4) (hW3.out.2.2.trans hw4.below)))
        clear hn4 h4 hw4
        go_wp2_with (first | (refine wpList_load_val rfl _ rfl wr.heap.size 0 _ rfl Hb9.out ?_))
        refine (HL.out y HyL.out _ _ v4 w4 Hat.out H4.out.2.2 H4.out.1 (by have h2 := Hnext.out.2; rw [Hnx.out] at h2; simp only [List.length_append] at h2 ⊢; omega)).mono ?_
        rintro e w5 ⟨rfl, v5, h5, hw5⟩
        have H5 := Lib.hid (And.intro h5 (H4.out.2.1.trans hw5))
        clear h5 hw5
        go_wp2_with fail
        go_roundw
        case rel => exact ⟨k + 1, v5, by omega, by go_num, by rw [Hnx.out]; exact H5.out.1, H5.out.2⟩
        case measure => simp [intOf]; omega
    · have hd : decide ((k : Int) < n) = false := by simp; omega
      obtain rfl : k = n := by omega
      have hall : L.take k = L := List.take_of_length_le (by rw [← HN.out]; exact Nat.le_refl _)
      rw [hall] at hbw
      have Hfin := Lib.hid (And.intro hbw hww)
      have Hw1 := Lib.hid (write_text W0.heap.size W0.heap.size _ v' after wr hbw (by have := HLen.out; simp only [List.length_append, nats_length, most] at this ⊢; omega) (Nat.le_of_lt hbw.lt))
      clear hall hbw hww
      go_wp2_with fail
      refine Hw1.out.mono ?_
      rintro e w3 ⟨rfl, v3, h3, hw3⟩
      have H3 := Lib.hid (And.intro h3 (Hfin.out.2.trans hw3))
      clear h3 hw3
      go_wp2_with fail
      go_end0
      exact ⟨rfl, v3, H3.out.1, H3.out.2⟩
-- GEN
abbrev hexS : ByteArray := ⟨#[48, 49, 50, 51, 52, 53, 54, 55, 56, 57, 97, 98, 99, 100, 101, 102]⟩
theorem hex_at : ∀ c (h : c < hexS.size), (hexS[c]'h).toNat = hexD c := by decide +kernel
set_option maxHeartbeats 8000000 in
theorem write_step {W0 : World} (x : Vl) (hx : ∀ y ∈ cntd x, WriteOk W0 y) : WriteOk W0 x := by
  intro cs l v w hat0 hb hbld hlen
  have hat := Vl.at_below hb (Nat.le_refl _) _ _ hat0
  obtain ⟨W, hWe⟩ : ∃ W, W = w.alloc (.cells cs.toArray 35) := ⟨_, rfl⟩
  have hbox : ValIn W w.heap.size cs.toArray := by rw [hWe]; exact World.alloc_heap_new w _
  have hal : Below w.heap.size w W := by rw [hWe]; exact K.alloc_below w _
  have hcnt : Calls Try.prog 62 #[.agg cs.toArray] W fun e w' => ∃ v, e = .returned v ∧ ListAt W0 (cntd x) v ∧ Below W.heap.size W w' := by
    refine (counted_all (Vl.at_below hal (Nat.le_refl _) _ _ hat)).mono ?_
    rintro e w' ⟨v, h1, h2, h3⟩
    exact ⟨v, h1, h2 W0 hat0, h3⟩
  have hB : W0.heap.size ≤ w.heap.size := Nat.le_of_lt hbld.lt
  have hlist : ∀ (u : Value), ListAt W0 (cntd x) u → ∃ (a : Option Addr) (cap : Nat), u = .slice a (cntd x).length cap ∧ ∀ (before after : ByteArray) (l : List Nat) (v : Value) (w : World), Below W0.heap.size W0 w → Bld w W0.heap.size W0.heap.size l v → l.length + before.size + (joinT ((cntd x).map Vl.txt)).length + after.size + 8 ≤ most →
      Calls Try.prog 72 #[.pointer (some ⟨W0.heap.size, 0, none⟩), .string before, .slice a (cntd x).length cap, .string after] w (Writes W0.heap.size w v (l ++ nats before ++ joinT ((cntd x).map Vl.txt) ++ nats after)) := by
    rintro u ⟨a, cap, rfl, hmax, hmem⟩
    exact ⟨a, cap, rfl, fun before after l v w hb hbld hlen => wlist_walk (cntd x) hx a cap hmax hmem before after l v w hb hbld hlen⟩
  have htxt := txt_cntd x
  have hbyte := at_byte hat
  have hkb := at_cells hat
  obtain ⟨a0, cap0, _, hcs⟩ := hkb
  have hb3 := val3_in (cs := cs) hbox (at_len hat)
  have Hcell : Hid (∀ w', Below W.heap.size W w' → Val3 w' w.heap.size 0 cs) := Lib.hid fun w' h => hb3.below (by rw [hWe]; simp) h
  have Hin : Hid (∀ w', Below W.heap.size W w' → ValIn w' w.heap.size cs.toArray) := Lib.hid fun w' h => val_later h hbox
  rw [htxt] at hlen ⊢
  generalize x.kind = k at *
  generalize x.byte = z at *
  generalize x.nodes.length = ln at *
  generalize hL : (cntd x).map Vl.txt = ps at *
  have hpl : ps.length = (cntd x).length := by rw [← hL, List.length_map]
  generalize hn : (cntd x).length = n at *
  have Hlist := Lib.hid hlist
  have Hb := Lib.hid hb
  have Hbld := Lib.hid hbld
  have Hlen := Lib.hid hlen
  have Hal := Lib.hid hal
  have HB := Lib.hid hB
  have Hz := Lib.hid hbyte
  have HLs := Lib.hid hL
  have Hpl := Lib.hid hpl
  subst hcs
  have hbl : Val3 W w.heap.size 0 _ := Hcell.out W (Below.refl _ _)
  clear hat hat0 hbox hal hB hlist htxt hbyte hb3 hlen hbld hb hx hn hL hpl
  -- behind the call of counted
  have hmid : ∀ w1, Below W.heap.size W w1 → Hid (Bld w1 W0.heap.size W0.heap.size l v ∧ Wrote W0.heap.size W0.heap.size w v w1 v ∧ Below W0.heap.size W0 w1 ∧ W0.heap.size ≤ w1.heap.size) := fun w1 h => Lib.hid (by
    have h2 := Hal.out.trans (h.mono Hal.out.size)
    exact ⟨Hbld.out.later h2, Wrote.later v h2 HB.out, Hb.out.trans (h2.mono HB.out), Nat.le_trans HB.out h2.size⟩)
  have Hmid := Lib.hid hmid
  clear hmid
  by_cases h1 : k = 1
  · subst h1
    have Htx := Lib.hid (show partsT 1 z ps = [69] from rfl)
    rw [Htx.out]
    go_enter Try.func48, Try.ntmps48
    go_upto_region 1 with fail
    rw [← hWe]
    clear hWe
    go_wp2_with (first
      | (refine wpList_load_val rfl _ rfl w.heap.size 0 _ rfl hbl ?_)
      | (go_at_call 62; refine hcnt.mono ?_; clear hcnt; rintro e w1 ⟨u, rfl, hu, hb1⟩; obtain ⟨a1, cap1, rfl, hwl⟩ := Hlist.out u hu; have c0 := (Hcell.out w1 hb1).2 0 (by decide); have c1 := (Hcell.out w1 hb1).2 1 (by decide); simp only [List.getElem?_cons_zero, List.getElem?_cons_succ, Nat.zero_add] at c0 c1; have Hm := Hmid.out w1 hb1; have Hwl := Lib.hid hwl; clear hb1 hu hwl)
      | fail)
    refine (write_byte W0.heap.size W0.heap.size l v 69 w1 Hm.out.1 (by have := Hlen.out; unfold most at this; omega) Hm.out.2.2.2).mono ?_
    rintro e w2 ⟨rfl, v2, h2, hw2⟩
    have H2 := Lib.hid (And.intro h2 (Hm.out.2.1.trans hw2))
    clear h2 hw2
    go_wp2_with fail
    go_end0
    exact ⟨rfl, v2, H2.out⟩
  by_cases h2 : k = 2
  · subst h2
    have Htx := Lib.hid (show partsT 2 z ps = hexT z from rfl)
    rw [Htx.out]
    have hlen2 : l.length + 2 + 8 ≤ most := by have := Hlen.out; rw [Htx.out] at this; exact this
    have Hlen2 := Lib.hid hlen2
    clear h1 hlen2
    have hz1 : ((z : Int)).tdiv 16 = ((z / 16 : Nat) : Int) := rfl
    have hz2 : ((z : Int)).tmod 16 = ((z % 16 : Nat) : Int) := rfl
    have hz256 := Hz.out
    have Hne : Hid (w.heap.size ≠ W0.heap.size) := Lib.hid (by have := Hbld.out.lt; omega)
    go_enter Try.func48, Try.ntmps48
    go_upto_region 1 with fail
    rw [← hWe]
    clear hWe
    go_wp2_with (first
      | (refine wpList_load_val rfl _ rfl w.heap.size 0 _ rfl hbl ?_)
      | (go_at_call 62; refine hcnt.mono ?_; clear hcnt; rintro e w1 ⟨u, rfl, hu, hb1⟩; obtain ⟨a1, cap1, rfl, hwl⟩ := Hlist.out u hu; have c0 := (Hcell.out w1 hb1).2 0 (by decide); have c1 := (Hcell.out w1 hb1).2 1 (by decide); simp only [List.getElem?_cons_zero, List.getElem?_cons_succ, Nat.zero_add] at c0 c1; have Hi := Lib.hid (Hin.out w1 hb1); have Hm := Hmid.out w1 hb1; have Hwl := Lib.hid hwl; clear hb1 hu hwl)
      | fail)

    rw [hex_at]
    refine (write_byte W0.heap.size W0.heap.size l v (hexD (z / 16)) w1 Hm.out.1 (by have := Hlen2.out; unfold most at this; omega) Hm.out.2.2.2).mono ?_
    rintro e w3 ⟨rfl, v3, h3, hw3⟩
    have hi3 : ValIn w3 w.heap.size _ := (hw3.keep w.heap.size (lt_of_block Hi.out) Hne.out (Hm.out.1.ownKind Hi.out (by decide))).trans Hi.out
    have c3 := cells_at hi3 1
    have H3 := Lib.hid (And.intro h3 (Hm.out.2.1.trans hw3))
    have hw2 := write_byte W0.heap.size W0.heap.size (l ++ [hexD (z / 16)]) v3 (hexD (z % 16)) w3 h3 (by have := Hlen2.out; unfold most at this; rw [List.length_append, List.length_singleton]; omega) (Nat.le_trans Hm.out.2.2.2 hw3.below.size)
    have Hw2 := Lib.hid hw2
    simp only [List.getElem?_toArray, List.getElem?_cons_zero, List.getElem?_cons_succ] at c3
    clear h3 hw3 hi3 hw2
    go_wp2_with fail
    rw [hex_at]
    refine Hw2.out.mono ?_
    rintro e w4 ⟨rfl, v4, h4, hw4⟩
    have H4 := Lib.hid (And.intro h4 (H3.out.2.trans hw4))
    clear h4 hw4
    go_wp2_with fail
    go_end0
    exact ⟨rfl, v4, by have h := H4.out.1; rw [List.append_assoc] at h; exact h, H4.out.2⟩
  by_cases h3 : k = 3
  · subst h3
    clear h1 h2
    by_cases hlt : n < 2
    · have Hlt := Lib.hid (show ps.length < 2 from by rw [Hpl.out]; exact hlt)
      have d1 : decide ((n : Int) < 2) = true := by simp; omega
      have d2 : decide (n < 2) = true := by simp; omega
      have Htx := Lib.hid (show partsT 3 z ps = 40 :: (joinT ps ++ [44, 41]) from by unfold partsT; simp [Hlt.out])
      rw [Htx.out]
      clear hlt
      go_enter Try.func48, Try.ntmps48
      go_upto_region 1 with fail
      rw [← hWe]
      clear hWe
      go_wp2_with (first
        | (refine wpList_load_val rfl _ rfl w.heap.size 0 _ rfl hbl ?_)
        | (go_at_call 62; refine hcnt.mono ?_; clear hcnt; rintro e w1 ⟨u, rfl, hu, hb1⟩; obtain ⟨a1, cap1, rfl, hwl⟩ := Hlist.out u hu; have c0 := (Hcell.out w1 hb1).2 0 (by decide); have c1 := (Hcell.out w1 hb1).2 1 (by decide); simp only [List.getElem?_cons_zero, List.getElem?_cons_succ, Nat.zero_add] at c0 c1; have Hm := Hmid.out w1 hb1; have Hwl := Lib.hid hwl; clear hb1 hu hwl)
        | fail)
      refine (Hwl.out ⟨#[40]⟩ ⟨#[44, 41]⟩ l v w1 Hm.out.2.2.1 Hm.out.1 (by have := Hlen.out; rw [Htx.out] at this; simp only [List.length_append, List.length_cons, List.length_nil] at this; show l.length + 1 + _ + 2 + 8 ≤ most; omega)).mono ?_
      rintro e w2 ⟨rfl, v2, h2, hw2⟩
      have H2 := Lib.hid (And.intro h2 (Hm.out.2.1.trans hw2))
      clear h2 hw2
      go_wp2_with fail
      go_end0
      refine ⟨rfl, v2, ?_, H2.out.2⟩
      have h := H2.out.1
      simpa [nats, HLs.out] using h
    · have Hlt := Lib.hid (show ¬ ps.length < 2 from by rw [Hpl.out]; exact hlt)
      have d1 : decide ((n : Int) < 2) = false := by simp; omega
      have d2 : decide (n < 2) = false := by simp; omega
      have Htx := Lib.hid (show partsT 3 z ps = 40 :: (joinT ps ++ [41]) from by unfold partsT; simp [Hlt.out])
      rw [Htx.out]
      go_enter Try.func48, Try.ntmps48
      go_upto_region 1 with fail
      rw [← hWe]
      clear hWe
      go_wp2_with (first
        | (refine wpList_load_val rfl _ rfl w.heap.size 0 _ rfl hbl ?_)
        | (go_at_call 62; refine hcnt.mono ?_; clear hcnt; rintro e w1 ⟨u, rfl, hu, hb1⟩; obtain ⟨a1, cap1, rfl, hwl⟩ := Hlist.out u hu; have c0 := (Hcell.out w1 hb1).2 0 (by decide); have c1 := (Hcell.out w1 hb1).2 1 (by decide); simp only [List.getElem?_cons_zero, List.getElem?_cons_succ, Nat.zero_add] at c0 c1; have Hm := Hmid.out w1 hb1; have Hwl := Lib.hid hwl; clear hb1 hu hwl)
        | fail)
      refine (Hwl.out ⟨#[40]⟩ ⟨#[41]⟩ l v w1 Hm.out.2.2.1 Hm.out.1 (by have := Hlen.out; rw [Htx.out] at this; simp only [List.length_append, List.length_cons, List.length_nil] at this; show l.length + 1 + _ + 1 + 8 ≤ most; omega)).mono ?_
      rintro e w2 ⟨rfl, v2, h2, hw2⟩
      have H2 := Lib.hid (And.intro h2 (Hm.out.2.1.trans hw2))
      clear h2 hw2
      go_wp2_with fail
      go_end0
      refine ⟨rfl, v2, ?_, H2.out.2⟩
      have h := H2.out.1
      simpa [nats, HLs.out] using h
  by_cases h4 : k = 4
  · subst h4
    clear h1 h2 h3
    have Htx := Lib.hid (show partsT 4 z ps = 76 :: joinT ps from by rfl)
    rw [Htx.out]
    go_enter Try.func48, Try.ntmps48
    go_upto_region 1 with fail
    rw [← hWe]
    clear hWe
    go_wp2_with (first
      | (refine wpList_load_val rfl _ rfl w.heap.size 0 _ rfl hbl ?_)
      | (go_at_call 62; refine hcnt.mono ?_; clear hcnt; rintro e w1 ⟨u, rfl, hu, hb1⟩; obtain ⟨a1, cap1, rfl, hwl⟩ := Hlist.out u hu; have c0 := (Hcell.out w1 hb1).2 0 (by decide); have c1 := (Hcell.out w1 hb1).2 1 (by decide); simp only [List.getElem?_cons_zero, List.getElem?_cons_succ, Nat.zero_add] at c0 c1; have Hm := Hmid.out w1 hb1; have Hwl := Lib.hid hwl; clear hb1 hu hwl)
      | fail)
    refine (Hwl.out ⟨#[76]⟩ ⟨#[]⟩ l v w1 Hm.out.2.2.1 Hm.out.1 (by have := Hlen.out; rw [Htx.out] at this; simp only [List.length_cons] at this; show l.length + 1 + _ + 0 + 8 ≤ most; omega)).mono ?_
    rintro e w2 ⟨rfl, v2, h2, hw2⟩
    have H2 := Lib.hid (And.intro h2 (Hm.out.2.1.trans hw2))
    clear h2 hw2
    go_wp2_with fail
    go_end0
    refine ⟨rfl, v2, ?_, H2.out.2⟩
    have h := H2.out.1
    simpa [nats, HLs.out] using h
  by_cases h5 : k = 5
  · subst h5
    clear h1 h2 h3 h4
    have Htx := Lib.hid (show partsT 5 z ps = 82 :: joinT ps from by rfl)
    rw [Htx.out]
    go_enter Try.func48, Try.ntmps48
    go_upto_region 1 with fail
    rw [← hWe]
    clear hWe
    go_wp2_with (first
      | (refine wpList_load_val rfl _ rfl w.heap.size 0 _ rfl hbl ?_)
      | (go_at_call 62; refine hcnt.mono ?_; clear hcnt; rintro e w1 ⟨u, rfl, hu, hb1⟩; obtain ⟨a1, cap1, rfl, hwl⟩ := Hlist.out u hu; have c0 := (Hcell.out w1 hb1).2 0 (by decide); have c1 := (Hcell.out w1 hb1).2 1 (by decide); simp only [List.getElem?_cons_zero, List.getElem?_cons_succ, Nat.zero_add] at c0 c1; have Hm := Hmid.out w1 hb1; have Hwl := Lib.hid hwl; clear hb1 hu hwl)
      | fail)
    refine (Hwl.out ⟨#[82]⟩ ⟨#[]⟩ l v w1 Hm.out.2.2.1 Hm.out.1 (by have := Hlen.out; rw [Htx.out] at this; simp only [List.length_cons] at this; show l.length + 1 + _ + 0 + 8 ≤ most; omega)).mono ?_
    rintro e w2 ⟨rfl, v2, h2, hw2⟩
    have H2 := Lib.hid (And.intro h2 (Hm.out.2.1.trans hw2))
    clear h2 hw2
    go_wp2_with fail
    go_end0
    refine ⟨rfl, v2, ?_, H2.out.2⟩
    have h := H2.out.1
    simpa [nats, HLs.out] using h
  by_cases h6 : k = 6
  · subst h6
    clear h1 h2 h3 h4 h5
    have Htx := Lib.hid (show partsT 6 z ps = 91 :: (joinT ps ++ [93]) from by rfl)
    rw [Htx.out]
    go_enter Try.func48, Try.ntmps48
    go_upto_region 1 with fail
    rw [← hWe]
    clear hWe
    go_wp2_with (first
      | (refine wpList_load_val rfl _ rfl w.heap.size 0 _ rfl hbl ?_)
      | (go_at_call 62; refine hcnt.mono ?_; clear hcnt; rintro e w1 ⟨u, rfl, hu, hb1⟩; obtain ⟨a1, cap1, rfl, hwl⟩ := Hlist.out u hu; have c0 := (Hcell.out w1 hb1).2 0 (by decide); have c1 := (Hcell.out w1 hb1).2 1 (by decide); simp only [List.getElem?_cons_zero, List.getElem?_cons_succ, Nat.zero_add] at c0 c1; have Hm := Hmid.out w1 hb1; have Hwl := Lib.hid hwl; clear hb1 hu hwl)
      | fail)
    refine (Hwl.out ⟨#[91]⟩ ⟨#[93]⟩ l v w1 Hm.out.2.2.1 Hm.out.1 (by have := Hlen.out; rw [Htx.out] at this; simp only [List.length_append, List.length_cons, List.length_nil] at this; show l.length + 1 + _ + 1 + 8 ≤ most; omega)).mono ?_
    rintro e w2 ⟨rfl, v2, h2, hw2⟩
    have H2 := Lib.hid (And.intro h2 (Hm.out.2.1.trans hw2))
    clear h2 hw2
    go_wp2_with fail
    go_end0
    refine ⟨rfl, v2, ?_, H2.out.2⟩
    have h := H2.out.1
    simpa [nats, HLs.out] using h
  by_cases h7 : k = 7
  · subst h7
    clear h1 h2 h3 h4 h5 h6
    have Htx := Lib.hid (show partsT 7 z ps = 60 :: (joinT ps ++ [62]) from by rfl)
    rw [Htx.out]
    go_enter Try.func48, Try.ntmps48
    go_upto_region 1 with fail
    rw [← hWe]
    clear hWe
    go_wp2_with (first
      | (refine wpList_load_val rfl _ rfl w.heap.size 0 _ rfl hbl ?_)
      | (go_at_call 62; refine hcnt.mono ?_; clear hcnt; rintro e w1 ⟨u, rfl, hu, hb1⟩; obtain ⟨a1, cap1, rfl, hwl⟩ := Hlist.out u hu; have c0 := (Hcell.out w1 hb1).2 0 (by decide); have c1 := (Hcell.out w1 hb1).2 1 (by decide); simp only [List.getElem?_cons_zero, List.getElem?_cons_succ, Nat.zero_add] at c0 c1; have Hm := Hmid.out w1 hb1; have Hwl := Lib.hid hwl; clear hb1 hu hwl)
      | fail)
    refine (Hwl.out ⟨#[60]⟩ ⟨#[62]⟩ l v w1 Hm.out.2.2.1 Hm.out.1 (by have := Hlen.out; rw [Htx.out] at this; simp only [List.length_append, List.length_cons, List.length_nil] at this; show l.length + 1 + _ + 1 + 8 ≤ most; omega)).mono ?_
    rintro e w2 ⟨rfl, v2, h2, hw2⟩
    have H2 := Lib.hid (And.intro h2 (Hm.out.2.1.trans hw2))
    clear h2 hw2
    go_wp2_with fail
    go_end0
    refine ⟨rfl, v2, ?_, H2.out.2⟩
    have h := H2.out.1
    simpa [nats, HLs.out] using h
  · have Htx := Lib.hid (show partsT k z ps = [63] from by unfold partsT; rw [if_neg h1, if_neg h2, if_neg h3, if_neg h4, if_neg h5, if_neg h6, if_neg h7])
    rw [Htx.out]
    have e1 : (k == 1) = false := by simp [h1]
    have e2 : (k == 2) = false := by simp [h2]
    have e3 : (k == 3) = false := by simp [h3]
    have e4 : (k == 4) = false := by simp [h4]
    have e5 : (k == 5) = false := by simp [h5]
    have e6 : (k == 6) = false := by simp [h6]
    have e7 : (k == 7) = false := by simp [h7]
    clear h1 h2 h3 h4 h5 h6 h7
    go_enter Try.func48, Try.ntmps48
    go_upto_region 1 with fail
    rw [← hWe]
    clear hWe
    go_wp2_with (first
      | (refine wpList_load_val rfl _ rfl w.heap.size 0 _ rfl hbl ?_)
      | (go_at_call 62; refine hcnt.mono ?_; clear hcnt; rintro e w1 ⟨u, rfl, hu, hb1⟩; obtain ⟨a1, cap1, rfl, hwl⟩ := Hlist.out u hu; have c0 := (Hcell.out w1 hb1).2 0 (by decide); have c1 := (Hcell.out w1 hb1).2 1 (by decide); simp only [List.getElem?_cons_zero, List.getElem?_cons_succ, Nat.zero_add] at c0 c1; have Hm := Hmid.out w1 hb1; have Hwl := Lib.hid hwl; clear hb1 hu hwl)
      | fail)
    refine (write_byte W0.heap.size W0.heap.size l v 63 w1 Hm.out.1 (by have := Hlen.out; unfold most at this; omega) Hm.out.2.2.2).mono ?_
    rintro e w2 ⟨rfl, v2, h2, hw2⟩
    have H2 := Lib.hid (And.intro h2 (Hm.out.2.1.trans hw2))
    clear h2 hw2
    go_wp2_with fail
    go_end0
    exact ⟨rfl, v2, H2.out⟩

theorem count_cntd {x y : Vl} (h : y ∈ cntd x) : y.count < x.count := by
  have h1 := counts_mem h
  have h2 := cntd_counts x
  omega
theorem write_any {W0 : World} : ∀ (m : Nat) (x : Vl), x.count ≤ m → WriteOk W0 x
  | 0, x, hm => by have := Vl.count_pos x; omega
  | m + 1, x, hm => write_step x fun y hy => write_any m y (by have := count_cntd hy; omega)
/-! how long a text may be; its bytes -/
theorem join_len : ∀ ps : List (List Nat), (joinT ps).length ≤ (ps.map (·.length + 1)).sum
  | [] => by simp [joinT]
  | [x] => by simp [joinT]
  | x :: y :: ps => by
    have := join_len (y :: ps)
    rw [joinT, List.length_append, List.length_cons, List.map_cons, List.sum_cons]
    omega
theorem parts_len (k : Int) (b : Nat) (ps : List (List Nat)) : (partsT k b ps).length ≤ 3 + (ps.map (·.length + 1)).sum := by
  have h := join_len ps
  unfold partsT hexT
  repeat' split
  all_goals (try simp only [List.length_cons, List.length_append, List.length_nil])
  all_goals omega
mutual
theorem txt_le : ∀ x : Vl, x.txt.length + 1 ≤ 4 * x.count
  | .mk k b l => by
    have h := parts_len k b ((l.take (cntN k l.length)).map Vl.txt)
    have h2 := txts_le l (cntN k l.length)
    rw [txt_mk, count_mk]
    rw [List.map_map] at h
    have e : ((l.take (cntN k l.length)).map ((fun x => x.length + 1) ∘ Vl.txt)) = (l.take (cntN k l.length)).map (fun x => x.txt.length + 1) := rfl
    rw [e] at h
    omega
theorem txts_le : ∀ (l : List Vl) (n : Nat), ((l.take n).map (fun x => x.txt.length + 1)).sum ≤ 4 * counts l
  | [], n => by simp
  | x :: l, 0 => by simp
  | x :: l, n + 1 => by
    have := txt_le x
    have := txts_le l n
    rw [List.take_succ_cons, List.map_cons, List.sum_cons, counts_cons]; omega
end
/-! the bytes of a value are bytes -/
mutual
def Vl.okB : Vl → Bool
  | .mk _ b l => decide (b < 256) && okBs l
def okBs : List Vl → Bool
  | [] => true
  | x :: l => x.okB && okBs l
end
theorem okB_mk (k : Int) (b : Nat) (l : List Vl) : (Vl.mk k b l).okB = (decide (b < 256) && okBs l) := by rw [Vl.okB]
theorem okBs_cons (x : Vl) (l : List Vl) : okBs (x :: l) = (x.okB && okBs l) := by rw [okBs]
mutual
theorem at_okB {w : World} : ∀ (x : Vl) (cs : List Value), Vl.at w x cs → x.okB = true
  | .mk k b l, cs, h => by
    rw [at_mk] at h
    obtain ⟨_, hb, a, cap, _, _, hl⟩ := h
    rw [okB_mk, decide_eq_true hb, Bool.true_and]
    rcases hl with hl | ⟨b, off, _, _, _, hv⟩
    · rw [List.length_eq_zero_iff.1 hl]; rw [okBs]
    · exact ats_okB l b off hv
theorem ats_okB {w : World} : ∀ (l : List Vl) (b off : Nat), valsAt w l b off → okBs l = true
  | [], _, _, _ => by rw [okBs]
  | x :: l, b, off, h => by
    rw [valsAt_cons] at h
    obtain ⟨⟨cs, _, _, hc⟩, h⟩ := h
    rw [okBs_cons, at_okB x cs hc, ats_okB l b (off + 3) h]; rfl
end
mutual
theorem txt_lt : ∀ (x : Vl), x.okB = true → ∀ c ∈ x.txt, c < 256
  | .mk k b l, h => by
    rw [okB_mk, Bool.and_eq_true, decide_eq_true_eq] at h
    rw [txt_mk]
    refine parts_lt h.1 fun p hp c hc => ?_
    rw [List.mem_map] at hp
    obtain ⟨y, hy, rfl⟩ := hp
    exact txts_lt l h.2 y (List.mem_of_mem_take hy) c hc
theorem txts_lt : ∀ (l : List Vl), okBs l = true → ∀ y ∈ l, ∀ c ∈ y.txt, c < 256
  | [], _, y, hy => by simp at hy
  | x :: l, h, y, hy => by
    rw [okBs_cons, Bool.and_eq_true] at h
    rcases List.mem_cons.1 hy with e | hy
    · rw [e]; exact txt_lt x h.1
    · exact txts_lt l h.2 y hy
end
mutual
theorem flat_lt : ∀ (x : Vl), x.okB = true → ∀ c ∈ x.flat, c < 256
  | .mk k b l, h => by
    rw [okB_mk, Bool.and_eq_true, decide_eq_true_eq] at h
    rw [flat_mk]
    split
    · intro c hc
      rw [List.mem_singleton] at hc
      subst hc
      exact h.1
    · intro c hc
      rw [List.mem_flatMap] at hc
      obtain ⟨y, hy, hc⟩ := hc
      exact flats_lt l h.2 y (List.mem_of_mem_take hy) c hc
theorem flats_lt : ∀ (l : List Vl), okBs l = true → ∀ y ∈ l, ∀ c ∈ y.flat, c < 256
  | [], _, y, hy => by simp at hy
  | x :: l, h, y, hy => by
    rw [okBs_cons, Bool.and_eq_true] at h
    rcases List.mem_cons.1 hy with e | hy
    · rw [e]; exact flat_lt x h.1
    · exact flats_lt l h.2 y hy
end
def TextIs (w : World) (T : List Nat) (e : Ending) (w' : World) : Prop := (∃ t : ByteArray, e = .returned (.string t) ∧ nats t = T) ∧ Below w.heap.size w w'
set_option maxHeartbeats 4000000 in
theorem text_walk {x : Vl} {cs : List Value} {w : World} (hat : Vl.at w x cs) (hc : x.txt.length + 8 ≤ most) :
    Calls Try.prog 19 #[.agg cs.toArray] w (TextIs w x.txt) := by
  obtain ⟨W, hW⟩ : ∃ W, W = w.alloc (.cells cs.toArray 35) := ⟨_, rfl⟩
  have hal : Below w.heap.size w W := by rw [hW]; exact K.alloc_below w _
  have hbox : ValIn W w.heap.size cs.toArray := by rw [hW]; exact World.alloc_heap_new w _
  have hb3 := val3_in (cs := cs) hbox (at_len hat)
  have hal2 : Below W.heap.size W (W.alloc (.cells #[.pointer none, .slice none 0 0] 77)) := K.alloc_below W _
  have hbx : Val3 (W.alloc (.cells #[.pointer none, .slice none 0 0] 77)) w.heap.size 0 cs := hb3.below (by rw [hW]; simp) hal2
  have Hlt := Lib.hid (txt_lt x (at_okB x cs hat))
  have hwr := write_any (W0 := W) x.count x (Nat.le_refl _) cs [] _ _ (Vl.at_below hal (Nat.le_refl _) _ _ hat) hal2 (bld_fresh W) (by simpa using hc)
  have Hc := Lib.hid hwr
  have Hal := Lib.hid (And.intro hal hal2)
  obtain ⟨kq, zq, aq, lenq, capq, rfl⟩ := at_lit hat
  generalize x.txt = T at *
  clear hwr hc hal hal2 hbox hb3 hat
  go_enter Try.func19, Try.ntmps19
  go_upto_region 1 with fail
  rw [← hW]
  clear hW
  go_wp2_with (first | (refine wpList_load_val rfl _ rfl w.heap.size 0 _ rfl hbx ?_))
  refine Hc.out.mono ?_
  rintro e w2 ⟨rfl, v2, h2, hw2⟩
  rw [List.nil_append] at h2
  have H2 := Lib.hid (And.intro h2 (Hal.out.2.trans hw2.below))
  clear h2 hw2
  go_wp2_with fail
  refine (bld_string _ _ _ v2 _ H2.out.1 Hlt.out (Nat.le_of_lt H2.out.1.lt)).mono ?_
  rintro e w3 ⟨rfl, hb3⟩
  have Hb3 := Lib.hid hb3
  clear hb3
  go_wp2_with fail
  go_ret
  exact ⟨⟨_, rfl, nats_bytes Hlt.out⟩, Hal.out.1.trans ((H2.out.2.trans Hb3.out).mono Hal.out.1.size)⟩
end V
end Go.Proofs.Ytklmomgccmekkaa
