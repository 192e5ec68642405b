/- CapsText, CapsWords, CapsAwake, CapsLaw, as one. -/
import Derived.Test.YtonhmjfopidacaaDoorCapsWalkAll
import Derived.Test.YtonhmjfopidacaaDoorShelf
import Derived.Test.YtonhmjfopidacaaDoorBuilder
import Derived.Lib.AppendIntMem
import Derived.Test.YtonhmjfopidacaaDoorClosed
import Derived.Test.YtonhmjfopidacaaDoorValMore
import Derived.Test.YtonhmjfopidacaaDoorValWS
import Derived.Test.YtonhmjfopidacaaDoorValOps
import Derived.Test.YtonhmjfopidacaaDoorCoreBig
namespace Go.Proofs.YtonhmjfopidacaaDoor
set_option maxRecDepth 100000
open Go.RowKit
/-- the table of powers reads as it is laid -/
abbrev PowAt (w : World) : Prop := Lib.TabIs Tryd.prog w "internal/strconv.uint64pow10" .u64 Lib.pow10Tab
theorem pow_below {w w' : World} (h : PowAt w) (hb : Below w.heap.size w w') : PowAt w' := Lib.tabBelow_of_tabIs h w' hb
namespace V
theorem fits_bounds {n : Int} (h : fits64 n) : -9223372036854775808 ≤ n ∧ n ≤ 9223372036854775807 := by
  have h' : (decide (-9223372036854775808 ≤ n) && decide (n ≤ 9223372036854775807)) = true := h
  simpa using h'
def intT (n : Int) : List Nat := (Lib.itoa n).map UInt8.toNat
def intS (n : Int) : ByteArray := ⟨(Lib.itoa n).toArray⟩
theorem intS_nats (n : Int) : nats (intS n) = intT n := rfl
theorem decDigits_len : ∀ (k n : Nat), n < 10 ^ (k + 1) → (Lib.decDigits n).length ≤ k + 1
  | 0, n, h => by
    rw [Lib.decDigits, dif_pos (by simpa using h)]; simp
  | k + 1, n, h => by
    rw [Lib.decDigits]
    by_cases hn : n < 10
    · rw [dif_pos hn]; simp
    · rw [dif_neg hn, List.length_append]
      have := decDigits_len k (n / 10) (by rw [Nat.pow_succ] at h; omega)
      simp; omega
theorem intS_size (n : Int) (h : fits64 n) : (intS n).size ≤ 20 := by
  have h1 : -9223372036854775808 ≤ n ∧ n ≤ 9223372036854775807 := fits_bounds h
  show (Lib.itoa n).toArray.size ≤ 20
  rw [List.size_toArray]
  unfold Lib.itoa
  split
  · have := decDigits_len 18 n.natAbs (by have : n.natAbs ≤ 9223372036854775808 := by omega
                                          have : (9223372036854775808 : Nat) < 10 ^ 19 := by decide
                                          omega)
    simp; omega
  · have := decDigits_len 18 n.toNat (by have : n.toNat ≤ 9223372036854775808 := by omega
                                         have : (9223372036854775808 : Nat) < 10 ^ 19 := by decide
                                         omega)
    omega
theorem itoa_any {n : Int} (h : fits64 n) {w : World} (hP : PowAt w) : Calls Tryd.prog 58 #[.int .i64 n] w fun e w' => e = .returned (.string (intS n)) ∧ Below w.heap.size w w' := by
  have h1 : -9223372036854775808 ≤ n ∧ n ≤ 9223372036854775807 := fits_bounds h
  refine (Tryd.strconv_Itoa n h1.1 h1.2 w hP).mono ?_
  rintro e w' ⟨rfl, k, os, rfl⟩
  refine ⟨rfl, rfl, rfl, rfl, ?_, ?_⟩
  · show w.heap.size ≤ (w.heap ++ os).size
    rw [Array.size_append]; omega
  · intro j hj
    show (w.heap ++ os)[j]? = w.heap[j]?
    rw [Array.getElem?_append_left hj]
/-- a span's text -/
def spanT (q : Int × Int) : List Nat := if q = (-1, -1) then [45] else 40 :: (intT q.1 ++ 44 :: (intT q.2 ++ [41]))
set_option maxHeartbeats 4000000 in
theorem span_text (f t : Int) (hf : fits64 f) (ht : fits64 t) (w : World) (hP : PowAt w) : Calls Tryd.prog 42 #[.agg #[.int .i64 f, .int .i64 t]] w (TextIs w (spanT (f, t))) := by
  obtain ⟨W, hW⟩ : ∃ W, W = w.alloc (.cells #[.int .i64 f, .int .i64 t] 47) := ⟨_, rfl⟩
  have hal : Below w.heap.size w W := by rw [hW]; exact K.alloc_below _ _
  have hbx : W.heap[w.heap.size]? = some (.cells #[.int .i64 f, .int .i64 t] 47) := by rw [hW]; exact World.alloc_heap_new w _
  have c0 : W.cell? ⟨w.heap.size, 0, none⟩ = some (.int .i64 f) := by rw [cells_at hbx]; rfl
  have c1 : W.cell? ⟨w.heap.size, 1, none⟩ = some (.int .i64 t) := by rw [cells_at hbx]; rfl
  have Hal := Lib.hid hal
  have hi1 : ∀ L : Later W, Calls Tryd.prog 58 #[.int .i64 f] L.val fun e w' => e = .returned (.string (intS f)) ∧ Below L.val.heap.size L.val w' := fun L => itoa_any hf (pow_below (pow_below hP hal) L.ok)
  have hi2 : ∀ L : Later W, Calls Tryd.prog 58 #[.int .i64 t] L.val fun e w' => e = .returned (.string (intS t)) ∧ Below L.val.heap.size L.val w' := fun L => itoa_any ht (pow_below (pow_below hP hal) L.ok)
  have hs1 := intS_size f hf
  have hs2 := intS_size t ht
  have hn1 := intS_nats f
  have hn2 := intS_nats t
  by_cases hb : f = -1 ∧ t = -1
  · obtain ⟨rfl, rfl⟩ := hb
    clear hal hbx hi1 hi2 hs1 hs2 hn1 hn2 hf ht hP
    go_enter Tryd.func42, Tryd.ntmps42
    go_upto_region 1 with fail
    rw [← hW]
    clear hW
    go_wp2_with fail
    go_ret
    exact ⟨⟨_, rfl, rfl⟩, Hal.out⟩
  · have hsp : spanT (f, t) = 40 :: (intT f ++ 44 :: (intT t ++ [41])) := by
      unfold spanT
      rw [if_neg (fun e => hb (by injection e with e1 e2; exact ⟨e1, e2⟩))]
    have hcell : ∀ L : Later W, L.val.cell? ⟨w.heap.size, 0, none⟩ = some (.int .i64 f) ∧ L.val.cell? ⟨w.heap.size, 1, none⟩ = some (.int .i64 t) := fun L => by
      have hlt := lt_of_block hbx
      rw [L.cell _ (show w.heap.size < _ from hlt), L.cell _ (show w.heap.size < _ from hlt)]
      exact ⟨c0, c1⟩
    have k0 := fun L => (hcell L).1
    have k1 := fun L => (hcell L).2
    rw [hsp]
    have hne : ¬ f = -1 ∨ f = -1 ∧ ¬ t = -1 := by omega
    have Hn := Lib.hid (And.intro hn1 hn2)
    generalize intS f = u at *
    generalize intS t = v at *
    have f1 : (9223372036854775807 < 1 + u.size) = False := by simp; omega
    have f2 : (9223372036854775807 < 1 + u.size + 1) = False := by simp; omega
    have f3 : (9223372036854775807 < 1 + u.size + 1 + v.size) = False := by simp; omega
    have f4 : (9223372036854775807 < 1 + u.size + 1 + v.size + 1) = False := by simp; omega
    have Hi := Lib.hid (And.intro hi1 hi2)
    clear hal hbx hi1 hi2 hs1 hs2 hn1 hn2 hf ht hP hb hsp hcell
    rcases hne with hne | ⟨rfl, hne⟩
    all_goals
      go_enter Tryd.func42, Tryd.ntmps42
      go_upto_region 1 with fail
      rw [← hW]
      clear hW
      go_upto_region 3 with fail
      have hnn : Nonempty (Later W) := Later.nonempty W
      refine wp_region_later (Below.refl _ _) (by kernel_rfl) (by kernel_rfl) ?_
      repeat (first | go_big_quiet_step (fail) | go_big_quiet_step (exact Later.calls (Hi.out.1 _)) | go_big_quiet_step (exact Later.calls (Hi.out.2 _)))
      refine wpQuiet_nil ?_
      intro w' hw'
      obtain ⟨L', rfl⟩ := hw'
      go_wp2_with fail
      go_ret
      refine ⟨⟨_, rfl, ?_⟩, Hal.out.trans (L'.ok.mono Hal.out.size)⟩
      rw [nats_add, nats_add, nats_add, nats_add, Hn.out.1, Hn.out.2]
      simp [nats]
/-- texts with blanks between -/
def joinS : List (List Nat) → List Nat
  | [] => []
  | [x] => x
  | x :: y :: l => x ++ 32 :: joinS (y :: l)
theorem joinS_snoc : ∀ (l : List (List Nat)) (x : List Nat), l ≠ [] → joinS (l ++ [x]) = joinS l ++ 32 :: x
  | [], x, h => absurd rfl h
  | [y], x, _ => rfl
  | y :: z :: l, x, _ => by
    have h := joinS_snoc (z :: l) x (by simp)
    show y ++ 32 :: joinS ((z :: l) ++ [x]) = (y ++ 32 :: joinS (z :: l)) ++ 32 :: x
    rw [h, List.append_assoc]; rfl
def slT (l : Sl) : List Nat := joinS (l.map spanT)
theorem spanT_len (q : Int × Int) (h1 : fits64 q.1) (h2 : fits64 q.2) : (spanT q).length ≤ 43 := by
  unfold spanT
  split
  · decide
  · have e : ∀ n, (intT n).length = (intS n).size := fun n => by
      show ((Lib.itoa n).map UInt8.toNat).length = (Lib.itoa n).toArray.size
      rw [List.length_map, List.size_toArray]
    have := intS_size q.1 h1
    have := intS_size q.2 h2
    simp only [List.length_cons, List.length_append, List.length_nil, e]
    omega
theorem slT_step (l : Sl) (j : Nat) (hj : j < l.length) : slT (l.take (j + 1)) = slT (l.take j) ++ (if j = 0 then [] else [32]) ++ spanT l[j] := by
  unfold slT
  rw [List.take_succ_eq_append_getElem hj, List.map_append]
  by_cases h0 : j = 0
  · subst h0
    rw [if_pos rfl, List.take_zero]
    rfl
  · rw [if_neg h0]
    have hne : (l.take j).map spanT ≠ [] := by
      intro e
      have := congrArg List.length e
      rw [List.length_map, List.length_take, List.length_nil] at this
      omega
    rw [show [l[j]].map spanT = [spanT l[j]] from rfl, joinS_snoc _ _ hne, List.append_assoc]; rfl
theorem slT_len (l : Sl) (h : ∀ q ∈ l, fits64 q.1 ∧ fits64 q.2) (j : Nat) (hj : j ≤ l.length) : (slT (l.take j)).length ≤ 44 * j := by
  induction j with
  | zero => rw [List.take_zero]; simp [slT, joinS]
  | succ j ih =>
    have := ih (by omega)
    have hq := h l[j] (List.getElem_mem _)
    have := spanT_len l[j] hq.1 hq.2
    rw [slT_step l j (by omega), List.length_append, List.length_append]
    split <;> simp <;> omega
theorem spanT_lt (q : Int × Int) : ∀ x ∈ spanT q, x < 256 := by
  intro x hx
  have e : ∀ n, ∀ x ∈ intT n, x < 256 := fun n x hx => by
    obtain ⟨u, _, rfl⟩ := List.mem_map.1 hx
    exact u.toNat_lt
  unfold spanT at hx
  split at hx
  · simp at hx; omega
  · simp only [List.mem_cons, List.mem_append, List.mem_nil_iff, or_false] at hx
    rcases hx with rfl | hx | rfl | hx | rfl
    · decide
    · exact e _ x hx
    · decide
    · exact e _ x hx
    · decide
theorem slT_lt (l : Sl) : ∀ x ∈ slT l, x < 256 := by
  have h : ∀ j, j ≤ l.length → ∀ x ∈ slT (l.take j), x < 256 := by
    intro j
    induction j with
    | zero => intro _ x hx; rw [List.take_zero] at hx; cases hx
    | succ j ih =>
      intro hj x hx
      rw [slT_step l j (by omega), List.mem_append, List.mem_append] at hx
      rcases hx with (hx | hx) | hx
      · exact ih (by omega) x hx
      · split at hx
        · cases hx
        · rw [List.mem_singleton] at hx; omega
      · exact spanT_lt _ x hx
  have := h l.length (Nat.le_refl _)
  rwa [List.take_length] at this
set_option maxHeartbeats 4000000 in
theorem text_any {l : Sl} (hl : l.length ≤ 1000000) (hfit : ∀ q ∈ l, fits64 q.1 ∧ fits64 q.2) {a : Option Addr} {cap' : Nat} {w : World} (h : SpAt w a cap' l) (hP : PowAt w) :
    Calls Tryd.prog 23 #[.slice a l.length cap'] w (TextIs w (slT l)) := by
  obtain ⟨W, hW⟩ : ∃ W, W = w.alloc (.cells #[.pointer none, .slice none 0 0] 90) := ⟨_, rfl⟩
  have hal : Below w.heap.size w W := by rw [hW]; exact K.alloc_below _ _
  have hb0 : Bld W w.heap.size w.heap.size [] (.slice none 0 0) := by rw [hW]; exact bld_fresh w
  obtain ⟨n, hn⟩ : ∃ n, n = l.length := ⟨_, rfl⟩
  rw [← hn]
  have hnI : (n : Int) ≤ 9223372036854775807 := by omega
  have H0 := Lib.hid (And.intro hb0 hal)
  have Hsp := Lib.hid (And.intro h (And.intro hP hfit))
  have HN := Lib.hid (And.intro hn hl)
  clear hb0 hal h hP hfit hn hl
  go_enter Tryd.func23, Tryd.ntmps23
  go_upto_region 2 with fail
  rw [← hW]
  clear hW
  go_wp2_with fail
  go_loopw [8] (fun i wr => ∃ (j : Nat) (v : Value), i = .int .i64 j ∧ j ≤ n ∧ Hid (Bld wr w.heap.size w.heap.size (slT (l.take j)) v) ∧ Hid (Below w.heap.size w wr)) (fun i _ => n - (intOf i).toNat)
  case atStart => exact ⟨0, _, rfl, Nat.zero_le _, Lib.hid (by rw [List.take_zero]; exact H0.out.1), Lib.hid H0.out.2⟩
  case round =>
    obtain ⟨j, v, rfl, hj, hB, hbr⟩ := hrel
    by_cases hjn : j < n
    · have hd : decide ((j : Int) < n) = true := by simp; omega
      have hjl : j < l.length := by have := HN.out.1; omega
      obtain ⟨bn, off, rfl, hcap, hbn, hcells⟩ := Hsp.out.1.2.resolve_left (by omega)
      have hc := hcells j hjl
      have hq := Hsp.out.2.2 l[j] (List.getElem_mem hjl)
      have hst := slT_step l j hjl
      have hlen := slT_len l Hsp.out.2.2 j (by omega)
      have hsl := spanT_len l[j] hq.1 hq.2
      generalize l[j] = q at hc hq hst hsl
      obtain ⟨f, t⟩ := q
      have c0 : wr.cell? ⟨bn, off + j * 2, none⟩ = some (.int .i64 f) := by rw [hbr.out.cell (p := ⟨bn, off + j * 2, none⟩) hbn]; exact hc.1
      have c1 : wr.cell? ⟨bn, off + j * 2 + 1, none⟩ = some (.int .i64 t) := by rw [hbr.out.cell (p := ⟨bn, off + j * 2 + 1, none⟩) hbn]; exact hc.2
      have hcapI : (n : Int) ≤ cap' := by have := HN.out.1; omega
      obtain ⟨w1, hw1⟩ : ∃ w1, w1 = wr.alloc (.cells #[.int .i64 f, .int .i64 t] 47) := ⟨_, rfl⟩
      have hal1 : Below wr.heap.size wr w1 := by rw [hw1]; exact K.alloc_below _ _
      have hx1 : w1.heap[wr.heap.size]? = some (.cells #[.int .i64 f, .int .i64 t] 47) := by rw [hw1]; exact World.alloc_heap_new wr _
      have hB1 := hB.out.later hal1
      have hb1 := hbr.out.trans (hal1.mono hbr.out.size)
      have d0 : w1.cell? ⟨wr.heap.size, 0, none⟩ = some (.int .i64 f) := by rw [cells_at hx1]; rfl
      have d1 : w1.cell? ⟨wr.heap.size, 1, none⟩ = some (.int .i64 t) := by rw [cells_at hx1]; rfl
      have hne : v.ownBlock ≠ some wr.heap.size := hB1.ownKind hx1 (by decide)
      have hwn : wr.heap.size ≠ w.heap.size := by have := hB.out.lt; omega
      have hs1 : w.heap.size ≤ w1.heap.size := hb1.size
      have hlt1 : wr.heap.size < w1.heap.size := lt_of_block hx1
      have H1 := Lib.hid (And.intro hB1 (And.intro hb1 (And.intro hs1 (And.intro hlt1 (And.intro hne hwn)))))
      have Hst := Lib.hid (And.intro hst (And.intro hlen hsl))
      have Hq := Lib.hid hq
      have HjL := Lib.hid hjl
      clear hst hlen hsl hq hB1 hb1 hs1 hlt1 hne hwn hal1 hx1 hc hcells hbn hcap hB hjl hbr
      by_cases hj0 : j = 0
      · have e0 : decide ((0 : Int) < (j : Int)) = false := by simp; omega
        have e1 : decide (0 < j) = false := by simp; omega
        have Hj0 := Lib.hid hj0
        clear hj0
        go_upto_region 5 with fail
        rw [← hw1]
        clear hw1
        go_wp2_with (first
          | (go_at_call 42; refine (span_text f t Hq.out.1 Hq.out.2 _ (pow_below Hsp.out.2.1 H1.out.2.1)).mono ?_; rintro e w3 ⟨⟨s, rfl, hs⟩, hb3⟩; have hss := size_nats hs; have H3 := Lib.hid (And.intro hs (And.intro hb3 hss)); clear hs hb3 hss)
          | (go_at_call 41; refine (write_text _ _ _ v s _ (H1.out.1.later H3.out.2.1) (by have := Hst.out; have := H3.out.2.2; have := HN.out; omega) (Nat.le_trans H1.out.2.2.1 H3.out.2.1.size)).mono ?_; rintro e w4 ⟨rfl, v', hB4, hw4⟩; have H4 := Lib.hid (And.intro hB4 hw4); clear hB4 hw4)
          | fail)
        go_roundw
        case rel =>
          refine ⟨j + 1, v', by go_num, by omega, Lib.hid ?_, Lib.hid ((H1.out.2.1.trans (H3.out.2.1.mono H1.out.2.2.1)).trans H4.out.2.below)⟩
          have := H4.out.1
          rw [H3.out.1] at this
          rw [Hst.out.1, if_pos Hj0.out, List.append_nil]
          exact this
        case measure => simp [intOf]; omega
      · have e0 : decide ((0 : Int) < (j : Int)) = true := by simp; omega
        have e1 : decide (0 < j) = true := by simp; omega
        have Hj0 := Lib.hid hj0
        clear hj0
        go_upto_region 5 with fail
        rw [← hw1]
        clear hw1
        go_wp2_with (first
          | (go_at_call 40; refine (write_byte _ _ _ v 32 _ H1.out.1 (by have := Hst.out; have := HN.out; omega) H1.out.2.2.1).mono ?_; rintro e w2 ⟨rfl, v2, hB2, hw2⟩
             have g0 : w2.cell? ⟨wr.heap.size, 0, none⟩ = some (.int .i64 f) := by rw [World.cell?_of_block (hw2.keep wr.heap.size H1.out.2.2.2.1 H1.out.2.2.2.2.2 H1.out.2.2.2.2.1)]; exact d0
             have g1 : w2.cell? ⟨wr.heap.size, 1, none⟩ = some (.int .i64 t) := by rw [World.cell?_of_block (hw2.keep wr.heap.size H1.out.2.2.2.1 H1.out.2.2.2.2.2 H1.out.2.2.2.2.1)]; exact d1
             have H2 := Lib.hid (And.intro hB2 (H1.out.2.1.trans hw2.below)); clear hB2 hw2)
          | (go_at_call 42; refine (span_text f t Hq.out.1 Hq.out.2 _ (pow_below Hsp.out.2.1 H2.out.2)).mono ?_; rintro e w3 ⟨⟨s, rfl, hs⟩, hb3⟩; have hss := size_nats hs; have H3 := Lib.hid (And.intro hs (And.intro hb3 hss)); clear hs hb3 hss)
          | (go_at_call 41; refine (write_text _ _ _ v2 s _ (H2.out.1.later H3.out.2.1) (by have := Hst.out; have := H3.out.2.2; have := HN.out; rw [List.length_append, List.length_singleton]; omega) (Nat.le_trans H2.out.2.size H3.out.2.1.size)).mono ?_; rintro e w4 ⟨rfl, v', hB4, hw4⟩; have H4 := Lib.hid (And.intro hB4 hw4); clear hB4 hw4)
          | fail)
        go_roundw
        case rel =>
          refine ⟨j + 1, v', by go_num, by omega, Lib.hid ?_, Lib.hid ((H2.out.2.trans (H3.out.2.1.mono H2.out.2.size)).trans H4.out.2.below)⟩
          have := H4.out.1
          rw [H3.out.1] at this
          rw [Hst.out.1, if_neg Hj0.out]
          exact this
        case measure => simp [intOf]; omega
    · have hd : decide ((j : Int) < n) = false := by simp; omega
      obtain rfl : j = n := by omega
      have hlj : l.take j = l := List.take_of_length_le (by have := HN.out; omega)
      rw [hlj] at hB
      have Hlt := Lib.hid (slT_lt l)
      go_wp2_with fail
      refine (bld_string _ _ _ v _ hB.out Hlt.out (Nat.le_of_lt hB.out.lt)).mono ?_
      rintro e w3 ⟨rfl, hb3⟩
      have Hb3 := Lib.hid hb3
      clear hb3
      go_wp2_with fail
      go_ret
      exact ⟨⟨_, rfl, nats_bytes Hlt.out⟩, hbr.out.trans Hb3.out⟩
end V
end Go.Proofs.YtonhmjfopidacaaDoor
namespace Go.Proofs.YtonhmjfopidacaaDoor
namespace V
set_option maxRecDepth 100000
open Go.RowKit
/-- the call returns a value in new memory -/
def ValNew (x : Vl) (w : World) (e : Ending) (w' : World) : Prop := ∃ zs, e = .returned (.agg zs.toArray) ∧ Vl.at w' x zs ∧ Below w.heap.size w w'
set_option maxHeartbeats 4000000 in
theorem byt_walk (b : Nat) (hb : b < 256) (w : World) : Calls Tryd.prog 17 #[.int .u8 b] w (ValNew (.mk 2 b []) w) := by
  obtain ⟨W, hW⟩ : ∃ W, W = w.alloc (.cells #[.int .i64 0, .int .u8 0, .slice none 0 0] 39) := ⟨_, rfl⟩
  have hbW : Below w.heap.size w W := by rw [hW]; exact K.alloc_below w _
  have hz : ValIn W w.heap.size #[.int .i64 0, .int .u8 0, .slice none 0 0] := by rw [hW]; exact World.alloc_heap_new w _
  have Hz := Lib.hid hz
  have HbW := Lib.hid hbW
  clear hbW hz
  go_enter Tryd.func17, Tryd.ntmps17
  go_upto_region 1 with fail
  rw [← hW]
  clear hW
  go_wp2_with (first
    | (refine wpList_store_val rfl _ _ rfl w.heap.size _ #[.int .i64 2, .int .u8 b, .slice none 0 0] rfl rfl Hz.out rfl rfl (by simp [Value.oneCell']) ?_; intro wz hsz hoz; have Hsz := Lib.hid hsz; have Hoz := Lib.hid hoz; clear hsz hoz; simp only [Act.put])
    | fail)
  exact bodyPost_ret (results_val rfl _ _ w.heap.size _ rfl Hsz.out rfl) rfl ⟨[.int .i64 2, .int .u8 b, .slice none 0 0], rfl, at_plain rfl hb, Hoz.out.below HbW.out (Nat.le_refl _)⟩
set_option maxHeartbeats 4000000 in
theorem many_walk {l : List Vl} {u : Value} {w : World} (h : ListAt w l u) : Calls Tryd.prog 14 #[u] w (ValNew (.mk 6 0 l) w) := by
  obtain ⟨W, hW⟩ : ∃ W, W = w.alloc (.cells #[.int .i64 0, .int .u8 0, .slice none 0 0] 39) := ⟨_, rfl⟩
  have hbW : Below w.heap.size w W := by rw [hW]; exact K.alloc_below w _
  have hz : ValIn W w.heap.size #[.int .i64 0, .int .u8 0, .slice none 0 0] := by rw [hW]; exact World.alloc_heap_new w _
  have hlW := h.below hbW
  have hfin : ∀ w', Only w.heap.size W w' → Vl.at w' (.mk 6 0 l) [.int .i64 6, .int .u8 0, u] := fun w' ho => at_of_list (h.below (ho.below hbW (Nat.le_refl _))) rfl (by decide)
  obtain ⟨a, cap, rfl, _⟩ := hlW
  have Hz := Lib.hid hz
  have HbW := Lib.hid hbW
  have Hfin := Lib.hid hfin
  clear hbW hz hfin h
  generalize l.length = n at *
  go_enter Tryd.func14, Tryd.ntmps14
  go_upto_region 1 with fail
  rw [← hW]
  clear hW
  go_wp2_with (first
    | (refine wpList_store_val rfl _ _ rfl w.heap.size _ #[.int .i64 6, .int .u8 0, .slice a n cap] rfl rfl Hz.out rfl rfl (by simp [Value.oneCell']) ?_; intro wz hsz hoz; have Hsz := Lib.hid hsz; have Hoz := Lib.hid hoz; clear hsz hoz; simp only [Act.put])
    | fail)
  exact bodyPost_ret (results_val rfl _ _ w.heap.size _ rfl Hsz.out rfl) rfl ⟨[.int .i64 6, .int .u8 0, .slice a n cap], rfl, Hfin.out _ Hoz.out, Hoz.out.below HbW.out (Nat.le_refl _)⟩
set_option maxHeartbeats 4000000 in
theorem left_walk {x : Vl} {cs : List Value} {w : World} (hx : Vl.at w x cs) : Calls Tryd.prog 15 #[.agg cs.toArray] w (ValNew (.mk 4 0 [x]) w) := by
  obtain ⟨W, hW⟩ : ∃ W, W = (w.alloc (.cells cs.toArray 39)).alloc (.cells #[.int .i64 0, .int .u8 0, .slice none 0 0] 39) := ⟨_, rfl⟩
  have hbW : Below w.heap.size w W := by rw [hW]; exact K.two_below2 _ _ _
  have hsW : W.heap.size = w.heap.size + 2 := by rw [hW]; simp
  have h0 : ValIn W w.heap.size cs.toArray := by rw [hW]; exact (Below.heap_alloc _ _ _ (by simp)).trans (World.alloc_heap_new w _)
  have h1 : ValIn W (w.heap.size + 1) #[.int .i64 0, .int .u8 0, .slice none 0 0] := by
    have h := World.alloc_heap_new (w.alloc (.cells cs.toArray 39)) (.cells #[.int .i64 0, .int .u8 0, .slice none 0 0] 39)
    rw [World.size_alloc] at h
    rw [hW]; exact h
  have h70 := val3_in h0 (at_len hx)
  obtain ⟨W2, hW2⟩ : ∃ W2, W2 = W.alloc (.cells cs.toArray 39) := ⟨_, rfl⟩
  have hb2 : Below W.heap.size W W2 := by rw [hW2]; exact K.alloc_below W _
  have hrow : W2.heap[W.heap.size]? = some (.cells cs.toArray 39) := by rw [hW2]; exact World.alloc_heap_new W _
  have hfin : ∀ w', Only (w.heap.size + 1) W2 w' → Vl.at w' (.mk 4 0 [x]) [.int .i64 4, .int .u8 0, .slice (some ⟨W.heap.size, 0, none⟩) 1 1] := fun w' ho => by
    have hkeep : Below w.heap.size W2 w' := ho.below (Below.refl _ _) (by omega)
    have hk2 := (hbW.trans (hb2.mono hbW.size)).trans hkeep
    have hb : w'.heap[W.heap.size]? = some (.cells cs.toArray 39) := (ho.block _ (by omega)).trans hrow
    exact at_made (W := w') (b := W.heap.size) (k := 4) (z := 0) rfl (by decide) [(x, cs)] (by show 1 ≤ maxLen; decide) (by
      intro p hp
      rw [List.mem_singleton] at hp
      subst hp
      exact Vl.at_below hk2 (Nat.le_refl _) _ _ hx) (by simpa using hb)
  have Hfin := Lib.hid hfin
  have H2 := Lib.hid ((hb2.block _ (lt_of_block h1)).trans h1)
  have HbW2 := Lib.hid (hbW.trans (hb2.mono hbW.size))
  obtain ⟨k1, z1, a1, len1, cap1, rfl⟩ := at_lit hx
  clear hfin hb2 hrow h0 h1 hbW hx hsW
  go_enter Tryd.func15, Tryd.ntmps15
  go_upto_region 1 with fail
  rw [← hW]
  clear hW
  have hW2' : W.alloc (.cells #[.int .i64 k1, .int .u8 z1, .slice a1 len1 cap1] 39) = W2 := hW2.symm
  have HW2 := Lib.hid hW2'
  clear hW2 hW2'
  go_wp2_with (first
    | (refine wpList_load_val rfl _ rfl w.heap.size 0 _ rfl h70 ?_)
    | (rw [HW2.out]; refine wpList_store_val rfl _ _ rfl (w.heap.size + 1) _ #[.int .i64 4, .int .u8 0, .slice (some ⟨W.heap.size, 0, none⟩) 1 1] rfl rfl H2.out rfl rfl (by simp [Value.oneCell']) ?_; intro wz hsz hoz; have Hsz := Lib.hid hsz; have Hoz := Lib.hid hoz; clear hsz hoz; simp only [Act.put])
    | fail)
  exact bodyPost_ret (results_val rfl _ _ (w.heap.size + 1) _ rfl Hsz.out rfl) rfl ⟨[.int .i64 4, .int .u8 0, .slice (some ⟨W.heap.size, 0, none⟩) 1 1], rfl, Hfin.out _ Hoz.out, Hoz.out.below HbW2.out (by omega)⟩
set_option maxHeartbeats 4000000 in
theorem right_walk {x : Vl} {cs : List Value} {w : World} (hx : Vl.at w x cs) : Calls Tryd.prog 18 #[.agg cs.toArray] w (ValNew (.mk 5 0 [x]) w) := by
  obtain ⟨W, hW⟩ : ∃ W, W = (w.alloc (.cells cs.toArray 39)).alloc (.cells #[.int .i64 0, .int .u8 0, .slice none 0 0] 39) := ⟨_, rfl⟩
  have hbW : Below w.heap.size w W := by rw [hW]; exact K.two_below2 _ _ _
  have hsW : W.heap.size = w.heap.size + 2 := by rw [hW]; simp
  have h0 : ValIn W w.heap.size cs.toArray := by rw [hW]; exact (Below.heap_alloc _ _ _ (by simp)).trans (World.alloc_heap_new w _)
  have h1 : ValIn W (w.heap.size + 1) #[.int .i64 0, .int .u8 0, .slice none 0 0] := by
    have h := World.alloc_heap_new (w.alloc (.cells cs.toArray 39)) (.cells #[.int .i64 0, .int .u8 0, .slice none 0 0] 39)
    rw [World.size_alloc] at h
    rw [hW]; exact h
  have h70 := val3_in h0 (at_len hx)
  obtain ⟨W2, hW2⟩ : ∃ W2, W2 = W.alloc (.cells cs.toArray 39) := ⟨_, rfl⟩
  have hb2 : Below W.heap.size W W2 := by rw [hW2]; exact K.alloc_below W _
  have hrow : W2.heap[W.heap.size]? = some (.cells cs.toArray 39) := by rw [hW2]; exact World.alloc_heap_new W _
  have hfin : ∀ w', Only (w.heap.size + 1) W2 w' → Vl.at w' (.mk 5 0 [x]) [.int .i64 5, .int .u8 0, .slice (some ⟨W.heap.size, 0, none⟩) 1 1] := fun w' ho => by
    have hkeep : Below w.heap.size W2 w' := ho.below (Below.refl _ _) (by omega)
    have hk2 := (hbW.trans (hb2.mono hbW.size)).trans hkeep
    have hb : w'.heap[W.heap.size]? = some (.cells cs.toArray 39) := (ho.block _ (by omega)).trans hrow
    exact at_made (W := w') (b := W.heap.size) (k := 5) (z := 0) rfl (by decide) [(x, cs)] (by show 1 ≤ maxLen; decide) (by
      intro p hp
      rw [List.mem_singleton] at hp
      subst hp
      exact Vl.at_below hk2 (Nat.le_refl _) _ _ hx) (by simpa using hb)
  have Hfin := Lib.hid hfin
  have H2 := Lib.hid ((hb2.block _ (lt_of_block h1)).trans h1)
  have HbW2 := Lib.hid (hbW.trans (hb2.mono hbW.size))
  obtain ⟨k1, z1, a1, len1, cap1, rfl⟩ := at_lit hx
  clear hfin hb2 hrow h0 h1 hbW hx hsW
  go_enter Tryd.func18, Tryd.ntmps18
  go_upto_region 1 with fail
  rw [← hW]
  clear hW
  have hW2' : W.alloc (.cells #[.int .i64 k1, .int .u8 z1, .slice a1 len1 cap1] 39) = W2 := hW2.symm
  have HW2 := Lib.hid hW2'
  clear hW2 hW2'
  go_wp2_with (first
    | (refine wpList_load_val rfl _ rfl w.heap.size 0 _ rfl h70 ?_)
    | (rw [HW2.out]; refine wpList_store_val rfl _ _ rfl (w.heap.size + 1) _ #[.int .i64 5, .int .u8 0, .slice (some ⟨W.heap.size, 0, none⟩) 1 1] rfl rfl H2.out rfl rfl (by simp [Value.oneCell']) ?_; intro wz hsz hoz; have Hsz := Lib.hid hsz; have Hoz := Lib.hid hoz; clear hsz hoz; simp only [Act.put])
    | fail)
  exact bodyPost_ret (results_val rfl _ _ (w.heap.size + 1) _ rfl Hsz.out rfl) rfl ⟨[.int .i64 5, .int .u8 0, .slice (some ⟨W.heap.size, 0, none⟩) 1 1], rfl, Hfin.out _ Hoz.out, Hoz.out.below HbW2.out (by omega)⟩
set_option maxHeartbeats 4000000 in
theorem group_walk {x : Vl} {cs : List Value} {w : World} (hx : Vl.at w x cs) : Calls Tryd.prog 16 #[.agg cs.toArray] w (ValNew (.mk 7 0 [x]) w) := by
  obtain ⟨W, hW⟩ : ∃ W, W = (w.alloc (.cells cs.toArray 39)).alloc (.cells #[.int .i64 0, .int .u8 0, .slice none 0 0] 39) := ⟨_, rfl⟩
  have hbW : Below w.heap.size w W := by rw [hW]; exact K.two_below2 _ _ _
  have hsW : W.heap.size = w.heap.size + 2 := by rw [hW]; simp
  have h0 : ValIn W w.heap.size cs.toArray := by rw [hW]; exact (Below.heap_alloc _ _ _ (by simp)).trans (World.alloc_heap_new w _)
  have h1 : ValIn W (w.heap.size + 1) #[.int .i64 0, .int .u8 0, .slice none 0 0] := by
    have h := World.alloc_heap_new (w.alloc (.cells cs.toArray 39)) (.cells #[.int .i64 0, .int .u8 0, .slice none 0 0] 39)
    rw [World.size_alloc] at h
    rw [hW]; exact h
  have h70 := val3_in h0 (at_len hx)
  obtain ⟨W2, hW2⟩ : ∃ W2, W2 = W.alloc (.cells cs.toArray 39) := ⟨_, rfl⟩
  have hb2 : Below W.heap.size W W2 := by rw [hW2]; exact K.alloc_below W _
  have hrow : W2.heap[W.heap.size]? = some (.cells cs.toArray 39) := by rw [hW2]; exact World.alloc_heap_new W _
  have hfin : ∀ w', Only (w.heap.size + 1) W2 w' → Vl.at w' (.mk 7 0 [x]) [.int .i64 7, .int .u8 0, .slice (some ⟨W.heap.size, 0, none⟩) 1 1] := fun w' ho => by
    have hkeep : Below w.heap.size W2 w' := ho.below (Below.refl _ _) (by omega)
    have hk2 := (hbW.trans (hb2.mono hbW.size)).trans hkeep
    have hb : w'.heap[W.heap.size]? = some (.cells cs.toArray 39) := (ho.block _ (by omega)).trans hrow
    exact at_made (W := w') (b := W.heap.size) (k := 7) (z := 0) rfl (by decide) [(x, cs)] (by show 1 ≤ maxLen; decide) (by
      intro p hp
      rw [List.mem_singleton] at hp
      subst hp
      exact Vl.at_below hk2 (Nat.le_refl _) _ _ hx) (by simpa using hb)
  have Hfin := Lib.hid hfin
  have H2 := Lib.hid ((hb2.block _ (lt_of_block h1)).trans h1)
  have HbW2 := Lib.hid (hbW.trans (hb2.mono hbW.size))
  obtain ⟨k1, z1, a1, len1, cap1, rfl⟩ := at_lit hx
  clear hfin hb2 hrow h0 h1 hbW hx hsW
  go_enter Tryd.func16, Tryd.ntmps16
  go_upto_region 1 with fail
  rw [← hW]
  clear hW
  have hW2' : W.alloc (.cells #[.int .i64 k1, .int .u8 z1, .slice a1 len1 cap1] 39) = W2 := hW2.symm
  have HW2 := Lib.hid hW2'
  clear hW2 hW2'
  go_wp2_with (first
    | (refine wpList_load_val rfl _ rfl w.heap.size 0 _ rfl h70 ?_)
    | (rw [HW2.out]; refine wpList_store_val rfl _ _ rfl (w.heap.size + 1) _ #[.int .i64 7, .int .u8 0, .slice (some ⟨W.heap.size, 0, none⟩) 1 1] rfl rfl H2.out rfl rfl (by simp [Value.oneCell']) ?_; intro wz hsz hoz; have Hsz := Lib.hid hsz; have Hoz := Lib.hid hoz; clear hsz hoz; simp only [Act.put])
    | fail)
  exact bodyPost_ret (results_val rfl _ _ (w.heap.size + 1) _ rfl Hsz.out rfl) rfl ⟨[.int .i64 7, .int .u8 0, .slice (some ⟨W.heap.size, 0, none⟩) 1 1], rfl, Hfin.out _ Hoz.out, Hoz.out.below HbW2.out (by omega)⟩
set_option maxHeartbeats 4000000 in
theorem row_walk {x y : Vl} {cs ds : List Value} {w : World} (hx : Vl.at w x cs) (hy : Vl.at w y ds) : Calls Tryd.prog 21 #[.agg cs.toArray, .agg ds.toArray] w (ValNew (.mk 3 0 [x, y]) w) := by
  obtain ⟨W, hW⟩ : ∃ W, W = ((w.alloc (.cells cs.toArray 39)).alloc (.cells ds.toArray 39)).alloc (.cells #[.int .i64 0, .int .u8 0, .slice none 0 0] 39) := ⟨_, rfl⟩
  have hbW : Below w.heap.size w W := by rw [hW]; exact (((Below.refl _ _).alloc (Nat.le_refl _) _).alloc (by simp) _).alloc (by simp; omega) _
  have hsW : W.heap.size = w.heap.size + 3 := by rw [hW]; simp
  have h0 : ValIn W w.heap.size cs.toArray := by rw [hW]; exact (Below.heap_alloc _ _ _ (by simp; omega)).trans ((Below.heap_alloc _ _ _ (by simp)).trans (World.alloc_heap_new w _))
  have h1 : ValIn W (w.heap.size + 1) ds.toArray := by
    have h := World.alloc_heap_new (w.alloc (.cells cs.toArray 39)) (.cells ds.toArray 39)
    rw [World.size_alloc] at h
    rw [hW]; exact (Below.heap_alloc _ _ _ (by simp)).trans h
  have h2 : ValIn W (w.heap.size + 2) #[.int .i64 0, .int .u8 0, .slice none 0 0] := by
    have h := World.alloc_heap_new ((w.alloc (.cells cs.toArray 39)).alloc (.cells ds.toArray 39)) (.cells #[.int .i64 0, .int .u8 0, .slice none 0 0] 39)
    rw [World.size_alloc, World.size_alloc] at h
    rw [hW]; exact h
  have h70 := val3_in h0 (at_len hx)
  have h71 := val3_in h1 (at_len hy)
  obtain ⟨W2, hW2⟩ : ∃ W2, W2 = W.alloc (.cells (cs ++ ds).toArray 39) := ⟨_, rfl⟩
  have hb2 : Below W.heap.size W W2 := by rw [hW2]; exact K.alloc_below W _
  have hrow : W2.heap[W.heap.size]? = some (.cells (cs ++ ds).toArray 39) := by rw [hW2]; exact World.alloc_heap_new W _
  have hfin : ∀ w', Only (w.heap.size + 2) W2 w' → Vl.at w' (.mk 3 0 [x, y]) [.int .i64 3, .int .u8 0, .slice (some ⟨W.heap.size, 0, none⟩) 2 2] := fun w' ho => by
    have hkeep : Below w.heap.size W2 w' := ho.below (Below.refl _ _) (by omega)
    have hk2 := (hbW.trans (hb2.mono hbW.size)).trans hkeep
    have hb : w'.heap[W.heap.size]? = some (.cells (cs ++ ds).toArray 39) := (ho.block _ (by omega)).trans hrow
    exact at_made (W := w') (b := W.heap.size) (k := 3) (z := 0) rfl (by decide) [(x, cs), (y, ds)] (by show 2 ≤ maxLen; decide) (by
      intro p hp
      simp only [List.mem_cons, List.not_mem_nil, or_false] at hp
      rcases hp with rfl | rfl
      · exact Vl.at_below hk2 (Nat.le_refl _) _ _ hx
      · exact Vl.at_below hk2 (Nat.le_refl _) _ _ hy) (by simpa using hb)
  have Hfin := Lib.hid hfin
  have H2 := Lib.hid ((hb2.block _ (lt_of_block h2)).trans h2)
  have HbW2 := Lib.hid (hbW.trans (hb2.mono hbW.size))
  obtain ⟨k1, z1, a1, len1, cap1, rfl⟩ := at_lit hx
  obtain ⟨k2, z2, a2, len2, cap2, rfl⟩ := at_lit hy
  clear hfin hb2 hrow h0 h1 h2 hbW hx hy hsW
  go_enter Tryd.func21, Tryd.ntmps21
  go_upto_region 1 with fail
  rw [← hW]
  clear hW
  rw [show w.heap.size + 1 + 1 = w.heap.size + 2 from rfl]
  have hW2' : W.alloc (.cells #[.int .i64 k1, .int .u8 z1, .slice a1 len1 cap1, .int .i64 k2, .int .u8 z2, .slice a2 len2 cap2] 39) = W2 := hW2.symm
  have HW2 := Lib.hid hW2'
  clear hW2 hW2'
  go_wp2_with (first
    | (refine wpList_load_val rfl _ rfl w.heap.size 0 _ rfl h70 ?_)
    | (refine wpList_load_val rfl _ rfl (w.heap.size + 1) 0 _ rfl h71 ?_)
    | (rw [HW2.out]; refine wpList_store_val rfl _ _ rfl (w.heap.size + 2) _ #[.int .i64 3, .int .u8 0, .slice (some ⟨W.heap.size, 0, none⟩) 2 2] rfl rfl H2.out rfl rfl (by simp [Value.oneCell']) ?_; intro wz hsz hoz; have Hsz := Lib.hid hsz; have Hoz := Lib.hid hoz; clear hsz hoz; simp only [Act.put])
    | fail)
  exact bodyPost_ret (results_val rfl _ _ (w.heap.size + 2) _ rfl Hsz.out rfl) rfl ⟨[.int .i64 3, .int .u8 0, .slice (some ⟨W.heap.size, 0, none⟩) 2 2], rfl, Hfin.out _ Hoz.out, Hoz.out.below HbW2.out (by omega)⟩
end V
end Go.Proofs.YtonhmjfopidacaaDoor
namespace Go.Proofs.YtonhmjfopidacaaDoor
namespace V
set_option maxRecDepth 100000
open Go.RowKit
theorem of_eq {c : K.Cr} {v : Vl} {cs ds : List Value} {w : World} (hc : K.Cr.at w c cs) (hv : Vl.at w v ds) {at_ n : Int} {l : Sl} {b : Int} (h : ofSp c v at_ n = l ∧ ofErr c v at_ n = b) :
    Calls Tryd.prog 13 #[.agg cs.toArray, .agg ds.toArray, .int .i64 at_, .int .i64 n] w (SpPost w l b) := by
  obtain ⟨rfl, rfl⟩ := h
  exact of_any hc hv at_ n
theorem text_eq12 {l : Sl} {a : Option Addr} {cap' : Nat} {w : World} (h : SpAt w a cap' l) (hP : PowAt w) {t : ByteArray} (ht : (decide (slT l = nats t) && decide (l.length ≤ 1000) && l.all fun q => decide (-9223372036854775808 ≤ q.1) && decide (q.1 ≤ 9223372036854775807) && decide (-9223372036854775808 ≤ q.2) && decide (q.2 ≤ 9223372036854775807)) = true) :
    Calls Tryd.prog 23 #[.slice a l.length cap'] w fun e w' => e = .returned (.string t) ∧ Below w.heap.size w w' := by
  simp only [Bool.and_eq_true, decide_eq_true_eq, List.all_eq_true] at ht
  obtain ⟨⟨h1, h2⟩, h3⟩ := ht
  have hf : ∀ n : Int, -9223372036854775808 ≤ n → n ≤ 9223372036854775807 → fits64 n := fun n a b => by
    show (decide (-9223372036854775808 ≤ n) && decide (n ≤ 9223372036854775807)) = true
    rw [decide_eq_true a, decide_eq_true b]; rfl
  refine (text_any (by omega) (fun q hq => ?_) h hP).mono ?_
  · obtain ⟨⟨⟨g1, g2⟩, g3⟩, g4⟩ := h3 q hq
    exact ⟨hf _ g1 g2, hf _ g3 g4⟩
  · rintro e w' ⟨⟨u, rfl, hu⟩, hb⟩
    exact ⟨by rw [of_nats (hu.trans h1)], hb⟩
def bA : BitVec 256 := setOf [97]
def bB : BitVec 256 := setOf [98]
set_option maxHeartbeats 16000000 in
theorem awake12_any (w : World) (hP : PowAt w) : Calls Tryd.prog 8 #[] w fun e w' => e = .returned (.bool true) ∧ Below w.heap.size w w' := by
  have HP := Lib.hid hP
  clear hP
  go_enter Tryd.func8, Tryd.ntmps8
  go_wp2_with fail
  refine (ch_eq (s := bA) (bytes_lit w [97] #[.int .u8 97] rfl (by decide) (by decide)) rfl).mono ?_
  rintro e w2 ⟨z2, rfl, hat2, hb2⟩
  obtain ⟨k2, s2, n2, a2, len2, cap2, rfl⟩ := K.at_lit hat2
  have H2 := Lib.hid (And.intro hat2 ((K.alloc_below w _).trans (hb2.mono (by simp))))
  clear hat2 hb2
  go_wp2_with fail
  refine (K.grp_walk 1 rfl H2.out.1).mono ?_
  rintro e w3 ⟨z3, rfl, hat3, hb3⟩
  obtain ⟨k3, s3, n3, a3, len3, cap3, rfl⟩ := K.at_lit hat3
  have H3 := Lib.hid (And.intro hat3 (H2.out.2.trans (hb3.mono H2.out.2.size)))
  clear hat3 hb3
  go_wp2_with fail
  refine (ch_eq (s := bB) (bytes_lit w3 [98] #[.int .u8 98] rfl (by decide) (by decide)) rfl).mono ?_
  rintro e w4 ⟨z4, rfl, hat4, hb4⟩
  obtain ⟨k4, s4, n4, a4, len4, cap4, rfl⟩ := K.at_lit hat4
  have hb4' := (K.alloc_below w3 _).trans (hb4.mono (by simp))
  have H4 := Lib.hid (And.intro hat4 (And.intro (K.Cr.at_below hb4' (Nat.le_refl _) _ _ H3.out.1) (H3.out.2.trans (hb4'.mono H3.out.2.size))))
  clear hat4 hb4 hb4'
  go_wp2_with fail
  refine (K.alt_walk H4.out.2.1 H4.out.1).mono ?_
  rintro e w5 ⟨z5, rfl, hat5, hb5⟩
  obtain ⟨k5, s5, n5, a5, len5, cap5, rfl⟩ := K.at_lit hat5
  have H5 := Lib.hid (And.intro hat5 (H4.out.2.2.trans (hb5.mono H4.out.2.2.size)))
  clear hat5 hb5
  go_wp2_with fail
  refine (byt_walk 98 (by decide) w5).mono ?_
  rintro e w6 ⟨z6, rfl, hat6, hb6⟩
  obtain ⟨k6, y6, a6, len6, cap6, rfl⟩ := at_lit hat6
  have H6 := Lib.hid (And.intro hat6 (And.intro (K.Cr.at_below hb6 (Nat.le_refl _) _ _ H5.out.1) (H5.out.2.trans (hb6.mono H5.out.2.size))))
  clear hat6 hb6
  go_wp2_with fail
  refine (right_walk H6.out.1).mono ?_
  rintro e w7 ⟨z7, rfl, hat7, hb7⟩
  obtain ⟨k7, y7, a7, len7, cap7, rfl⟩ := at_lit hat7
  have H7 := Lib.hid (And.intro hat7 (And.intro (K.Cr.at_below hb7 (Nat.le_refl _) _ _ H6.out.2.1) (H6.out.2.2.trans (hb7.mono H6.out.2.2.size))))
  clear hat7 hb7
  go_wp2_with fail
  refine (of_eq (l := [(0, 1), (-1, -1)]) (b := 0) H7.out.2.1 H7.out.1 (by decide +kernel)).mono ?_
  rintro e w8 ⟨a8, cap8, rfl, hsp8, hb8⟩
  have H8 := Lib.hid (And.intro hsp8 (H7.out.2.2.trans (hb8.mono H7.out.2.2.size)))
  clear hsp8 hb8
  go_wp2_with fail
  refine (text_eq12 (t := ⟨#[40, 48, 44, 49, 41, 32, 45]⟩) H8.out.1 (pow_below HP.out H8.out.2) (by decide +kernel)).mono ?_
  rintro e w9 ⟨rfl, hb9⟩
  have H9 := Lib.hid (H8.out.2.trans (hb9.mono H8.out.2.size))
  clear hb9
  go_wp2_with fail
  go_ret
  exact ⟨rfl, H9.out⟩
end V
end Go.Proofs.YtonhmjfopidacaaDoor
namespace Go.Proofs.YtonhmjfopidacaaDoor
namespace V
set_option maxRecDepth 100000
open Go.RowKit
theorem spansL_get (a : Int) (p : Wk) (n j : Nat) (hj : j < (spansL a p n).length) : (spansL a p n)[j] = if j = 0 then (wrap64 a, wrap64 p.1) else spW (p.2 j) := by
  cases j with
  | zero => rfl
  | succ j => simp [spansL]
theorem spansL_same (a : Int) (p : Wk) {m n : Nat} (_h : m ≤ n) (j : Nat) (h1 : j < (spansL a p m).length) (h2 : j < (spansL a p n).length) : (spansL a p m)[j] = (spansL a p n)[j] := by
  rw [spansL_get, spansL_get]
/-- a walk ends behind all bytes -/
theorem cap_len : ∀ (m : Nat) (c : K.Cr), c.count ≤ m → c.form = true → ∀ v p, bel c v = true → (cap c v p).1 = p.1 + (v.flat.length : Int)
  | 0, c, h, _, _, _, _ => absurd (K.Cr.count_pos c) (by omega)
  | m + 1, .mk k st n l, hm, hf, v, p, hb => by
    rw [K.count_mk] at hm
    obtain ⟨hfl, hn0, hn32, hk⟩ := form_kinds hf
    have ih : ∀ y ∈ l, ∀ v p, bel y v = true → (cap y v p).1 = p.1 + (v.flat.length : Int) := fun y hy => cap_len m y (by have := K.counts_mem hy; omega) (hfl y hy)
    rcases hk with ⟨hk, rfl⟩ | ⟨rfl, rfl⟩ | ⟨hk, x, y, rfl⟩ | ⟨hk, x, rfl⟩
    · rcases hk with rfl | rfl
      · rw [bel_zero] at hb; cases hb
      · obtain rfl := bel_one hb
        have e : cap (.mk 1 st n []) (.mk 1 0 []) p = p := by rw [cap_mk]; rfl
        rw [e, flat_mk]; simp
    · obtain ⟨b, rfl⟩ := bel_two hb
      have e : cap (.mk 2 st n []) (.mk 2 b []) p = (p.1 + 1, p.2) := by rw [cap_mk]; rfl
      rw [e, flat_mk]; rfl
    · rcases hk with rfl | rfl
      · obtain ⟨v1, v2, rfl, h1, h2⟩ := bel_three hb
        have e : cap (.mk 3 st n [x, y]) (.mk 3 0 [v1, v2]) p = cap y v2 (cap x v1 p) := by rw [cap_mk]; rfl
        rw [e, ih y (by simp) v2 _ h2, ih x (by simp) v1 _ h1, flat_mk]
        simp [cntN]; omega
      · obtain ⟨v1, ⟨rfl, h1⟩ | ⟨rfl, h1⟩⟩ := bel_four hb
        · have e : cap (.mk 4 st n [x, y]) (.mk 4 0 [v1]) p = cap x v1 p := by rw [cap_mk]; rfl
          rw [e, ih x (by simp) v1 _ h1, flat_mk]
          simp [cntN]
        · have e : cap (.mk 4 st n [x, y]) (.mk 5 0 [v1]) p = cap y v1 p := by rw [cap_mk]; rfl
          rw [e, ih y (by simp) v1 _ h1, flat_mk]
          simp [cntN]
    · rcases hk with rfl | rfl | rfl
      · obtain ⟨vl, rfl, h1⟩ := bel_five hb
        have e : cap (.mk 5 st n [x]) (.mk 6 0 vl) p = vl.foldl (fun q u => cap x u (q.1, unsetG (fun t => hasG t x) q.2)) p := by
          rw [cap_mk]; unfold capT; rw [one_group]; rfl
        have hfold : ∀ (L : List Vl) (p : Wk), (∀ u ∈ L, bel x u = true) → (L.foldl (fun q u => cap x u (q.1, unsetG (fun t => hasG t x) q.2)) p).1 = p.1 + ((L.flatMap Vl.flat).length : Int) := by
          intro L
          induction L with
          | nil => intro p _; simp
          | cons u L ihL =>
            intro p hu
            rw [List.foldl_cons, ihL _ (fun z hz => hu z (by simp [hz])), ih x (by simp) u _ (hu u (by simp)), List.flatMap_cons, List.length_append]
            simp; omega
        rw [e, hfold vl p h1, flat_mk]
        simp [cntN]
      · obtain ⟨v1, rfl, h1⟩ := bel_six hb
        have e : (cap (.mk 6 st n [x]) (.mk 7 0 [v1]) p).1 = (cap x v1 p).1 := by rw [cap_mk]; rfl
        rw [e, ih x (by simp) v1 _ h1, flat_mk]
        simp [cntN]
      · have e : cap (.mk 7 st n [x]) v p = cap x v (p.1, unsetG (fun t => hasG t x) p.2) := by
          cases v; rw [cap_mk]; unfold capT; rw [one_group]; rfl
        rw [e, ih x (by simp) v _ (bel_seven hb)]
/-- what Of answers, at a place and moved along -/
theorem spans_inside {c : K.Cr} {v : Vl} (hg : goodV c v = true) {a b : Int} (ha : 0 ≤ a) (ha2 : a ≤ 1048576) (hb : 0 ≤ b) (hb2 : b ≤ 1048576) (hf : v.flat.length ≤ 1048576) (j : Nat) (h1 : j < (spansL a (cap c v (a, none32)) 32).length) (h2 : j < (spansL (a + b) (cap c v (a + b, none32)) 32).length) :
    ((spansL a (cap c v (a, none32)) 32)[j]'h1 = (-1, -1) ∧ (spansL (a + b) (cap c v (a + b, none32)) 32)[j]'h2 = (-1, -1)) ∨
    ∃ f t, (spansL a (cap c v (a, none32)) 32)[j]'h1 = (f, t) ∧ (spansL (a + b) (cap c v (a + b, none32)) 32)[j]'h2 = (f + b, t + b) ∧ a ≤ f ∧ f ≤ t ∧ t ≤ a + (v.flat.length : Int) := by
  have hgf : c.form = true := by
    unfold goodV K.goodC at hg
    simp only [Bool.and_eq_true] at hg
    exact hg.1.2
  have hbel : bel c v = true := by
    unfold goodV at hg
    rw [Bool.and_eq_true] at hg
    exact hg.2
  obtain ⟨n, r, hm⟩ := cap_moves _ c (Nat.le_refl _) hgf v
  have hl := cap_len _ c (Nat.le_refl _) hgf v (a, none32) hbel
  rw [hm.eq] at hl
  have hn : n = (v.flat.length : Int) := by
    have : a + n = a + (v.flat.length : Int) := hl
    omega
  have hwr : ∀ z : Int, 0 ≤ z → z ≤ 4194304 → wrap64 z = z := fun z h1 h2 => by unfold wrap64; omega
  rw [spansL_get, spansL_get, hm.eq, hm.eq]
  by_cases h0 : j = 0
  · rw [if_pos h0, if_pos h0]
    refine .inr ⟨a, a + n, ?_, ?_, by omega, by omega, by omega⟩
    · rw [hwr a ha (by omega)]
      show (a, wrap64 (a + n)) = _
      rw [hwr (a + n) (by omega) (by omega)]
    · rw [hwr (a + b) (by omega) (by omega)]
      show (a + b, wrap64 (a + b + n)) = _
      rw [hwr (a + b + n) (by omega) (by omega)]
      congr 1; omega
  · rw [if_neg h0, if_neg h0]
    show (spW (app r a none32 j) = _ ∧ spW (app r (a + b) none32 j) = _) ∨ ∃ f t, spW (app r a none32 j) = _ ∧ spW (app r (a + b) none32 j) = _ ∧ _
    unfold app
    cases hr : r j with
    | none => exact .inl ⟨rfl, rfl⟩
    | some q =>
      cases q with
      | none => exact .inl ⟨rfl, rfl⟩
      | some q =>
        obtain ⟨f, t⟩ := q
        obtain ⟨o1, o2, o3⟩ := hm.ok j f t hr
        refine .inr ⟨a + f, a + t, ?_, ?_, by omega, by omega, by omega⟩
        · show (wrap64 (a + f), wrap64 (a + t)) = _
          rw [hwr _ (by omega) (by omega), hwr _ (by omega) (by omega)]
        · show (wrap64 (a + b + f), wrap64 (a + b + t)) = _
          rw [hwr _ (by omega) (by omega), hwr _ (by omega) (by omega)]
          rw [show a + b + f = a + f + b from by omega, show a + b + t = a + t + b from by omega]
theorem len12 {y : Vl} {ds : List Value} {w : World} (hat : Vl.at w y ds) (h : y.count ≤ 1048576) : Calls Tryd.prog 33 #[.agg ds.toArray] w fun e w' => e = .returned (.int .i64 (y.flat.length : Int)) ∧ Below w.heap.size w w' := by
  have := len_any y ds w hat
  rw [len_flat (by omega)] at this
  exact this
theorem loadSpan {w : World} {b off : Nat} {f t : Int} (h : w.cell? ⟨b, off, none⟩ = some (.int .i64 f) ∧ w.cell? ⟨b, off + 1, none⟩ = some (.int .i64 t)) : (loadVar 47 ⟨b, off, none⟩).run Tryd.prog w = .ok (.agg #[.int .i64 f, .int .i64 t]) w := by
  have hl := run_loadCells_list (P := Tryd.prog) w ⟨b, off, none⟩ [.int .i64 f, .int .i64 t] (fun j v hv => by
    rw [addr_at]
    match j, hv with
    | 0, hv => rw [← hv]; exact h.1
    | 1, hv => rw [← hv]; exact h.2)
  have hi := infoSpan
  cases hq : Tryd.prog.info? 47 with
  | none => simp [hq] at hi
  | some i =>
    have hs : i.size = 2 := by simpa [hq] using hi
    have hagg : (isAgg 47).run Tryd.prog w = .ok true w := by
      unfold isAgg
      rw [Sem.run_bind, run_underlying Tryd.underlying47 w]
      rfl
    have hl2 : (loadCells ⟨b, off, none⟩ 2).run Tryd.prog w = _ := hl
    simp [loadVar, Sem.run_bind, hagg, sizeOf, typeInfo, hq, hs, hl2]
theorem quiet_load_span {o : Oper} {a : Act} {C : World → Prop} {K : Act → Prop} (x : Operand) (ho : o.op = .load 47 x) (b off : Nat) (f t : Int) (hx : a.eval x = .pointer (some ⟨b, off, none⟩))
    (h : ∀ w, C w → w.cell? ⟨b, off, none⟩ = some (.int .i64 f) ∧ w.cell? ⟨b, off + 1, none⟩ = some (.int .i64 t)) (hK : K (a.put o.dst (.agg #[.int .i64 f, .int .i64 t]))) : o.quiet Tryd.prog a C K :=
  ⟨.agg #[.int .i64 f, .int .i64 t], fun w hw => by
    unfold Oper.quietAt execOp
    simp only [ho, hx, Instr.loadAt, Instr.sureAddr, Sem.run_bind, Sem.run_pure, Result.andThen_ok, loadSpan (h w hw)]
    exact ⟨rfl, rfl⟩, hK⟩
/-- the same, the length told by another name -/
def SpPostN (w : World) (l : Sl) (n : Nat) (err : Int) (e : Ending) (w' : World) : Prop := ∃ a cap, e = .returned (.tuple #[.slice a n cap, .int .i64 err]) ∧ SpAt w' a cap l ∧ Below w.heap.size w w'
theorem SpPost.n {w w' : World} {l : Sl} {n : Nat} {err : Int} {e : Ending} (hn : l.length = n) (h : SpPost w l err e w') : SpPostN w l n err e w' := by
  subst hn; exact h
end V
end Go.Proofs.YtonhmjfopidacaaDoor
