/- caps.text, caps.Text, walked. -/
import Derived.Test.YtonhmjfopidacaaDoorCapsWalkAll
import Derived.Test.YtonhmjfopidacaaDoorShelf
import Derived.Test.YtonhmjfopidacaaDoorBuilder
import Derived.Lib.AppendIntMem
namespace Go.Proofs.YtonhmjfopidacaaDoor
set_option maxRecDepth 100000
open Go.RowKit
/-- the table of powers reads as it is laid -/
abbrev PowAt (w : World) : Prop := Lib.TabIs Tryd.prog w "internal/strconv.uint64pow10" .u64 Lib.pow10Tab
theorem pow_below {w w' : World} (h : PowAt w) (hb : Below w.heap.size w w') : PowAt w' := Lib.tabBelow_of_tabIs h w' hb
namespace V
theorem fits_bounds {n : Int} (h : fits64 n) : -9223372036854775808 ≤ n ∧ n ≤ 9223372036854775807 := by
  have h' : (decide (-9223372036854775808 ≤ n) && decide (n ≤ 9223372036854775807)) = true := h
  simpa using h'
def intT (n : Int) : List Nat := (Lib.itoa n).map UInt8.toNat
def intS (n : Int) : ByteArray := ⟨(Lib.itoa n).toArray⟩
theorem intS_nats (n : Int) : nats (intS n) = intT n := rfl
theorem decDigits_len : ∀ (k n : Nat), n < 10 ^ (k + 1) → (Lib.decDigits n).length ≤ k + 1
  | 0, n, h => by
    rw [Lib.decDigits, dif_pos (by simpa using h)]; simp
  | k + 1, n, h => by
    rw [Lib.decDigits]
    by_cases hn : n < 10
    · rw [dif_pos hn]; simp
    · rw [dif_neg hn, List.length_append]
      have := decDigits_len k (n / 10) (by rw [Nat.pow_succ] at h; omega)
      simp; omega
theorem intS_size (n : Int) (h : fits64 n) : (intS n).size ≤ 20 := by
  have h1 : -9223372036854775808 ≤ n ∧ n ≤ 9223372036854775807 := fits_bounds h
  show (Lib.itoa n).toArray.size ≤ 20
  rw [List.size_toArray]
  unfold Lib.itoa
  split
  · have := decDigits_len 18 n.natAbs (by have : n.natAbs ≤ 9223372036854775808 := by omega
                                          have : (9223372036854775808 : Nat) < 10 ^ 19 := by decide
                                          omega)
    simp; omega
  · have := decDigits_len 18 n.toNat (by have : n.toNat ≤ 9223372036854775808 := by omega
                                         have : (9223372036854775808 : Nat) < 10 ^ 19 := by decide
                                         omega)
    omega
theorem itoa_any {n : Int} (h : fits64 n) {w : World} (hP : PowAt w) : Calls Tryd.prog 58 #[.int .i64 n] w fun e w' => e = .returned (.string (intS n)) ∧ Below w.heap.size w w' := by
  have h1 : -9223372036854775808 ≤ n ∧ n ≤ 9223372036854775807 := fits_bounds h
  refine (Tryd.strconv_Itoa n h1.1 h1.2 w hP).mono ?_
  rintro e w' ⟨rfl, k, os, rfl⟩
  refine ⟨rfl, rfl, rfl, rfl, ?_, ?_⟩
  · show w.heap.size ≤ (w.heap ++ os).size
    rw [Array.size_append]; omega
  · intro j hj
    show (w.heap ++ os)[j]? = w.heap[j]?
    rw [Array.getElem?_append_left hj]
/-- a span's text -/
def spanT (q : Int × Int) : List Nat := if q = (-1, -1) then [45] else 40 :: (intT q.1 ++ 44 :: (intT q.2 ++ [41]))
set_option maxHeartbeats 4000000 in
theorem span_text (f t : Int) (hf : fits64 f) (ht : fits64 t) (w : World) (hP : PowAt w) : Calls Tryd.prog 42 #[.agg #[.int .i64 f, .int .i64 t]] w (TextIs w (spanT (f, t))) := by
  obtain ⟨W, hW⟩ : ∃ W, W = w.alloc (.cells #[.int .i64 f, .int .i64 t] 47) := ⟨_, rfl⟩
  have hal : Below w.heap.size w W := by rw [hW]; exact K.alloc_below _ _
  have hbx : W.heap[w.heap.size]? = some (.cells #[.int .i64 f, .int .i64 t] 47) := by rw [hW]; exact World.alloc_heap_new w _
  have c0 : W.cell? ⟨w.heap.size, 0, none⟩ = some (.int .i64 f) := by rw [cells_at hbx]; rfl
  have c1 : W.cell? ⟨w.heap.size, 1, none⟩ = some (.int .i64 t) := by rw [cells_at hbx]; rfl
  have Hal := Lib.hid hal
  have hi1 : ∀ L : Later W, Calls Tryd.prog 58 #[.int .i64 f] L.val fun e w' => e = .returned (.string (intS f)) ∧ Below L.val.heap.size L.val w' := fun L => itoa_any hf (pow_below (pow_below hP hal) L.ok)
  have hi2 : ∀ L : Later W, Calls Tryd.prog 58 #[.int .i64 t] L.val fun e w' => e = .returned (.string (intS t)) ∧ Below L.val.heap.size L.val w' := fun L => itoa_any ht (pow_below (pow_below hP hal) L.ok)
  have hs1 := intS_size f hf
  have hs2 := intS_size t ht
  have hn1 := intS_nats f
  have hn2 := intS_nats t
  by_cases hb : f = -1 ∧ t = -1
  · obtain ⟨rfl, rfl⟩ := hb
    clear hal hbx hi1 hi2 hs1 hs2 hn1 hn2 hf ht hP
    go_enter Tryd.func42, Tryd.ntmps42
    go_upto_region 1 with fail
    rw [← hW]
    clear hW
    go_wp2_with fail
    go_ret
    exact ⟨⟨_, rfl, rfl⟩, Hal.out⟩
  · have hsp : spanT (f, t) = 40 :: (intT f ++ 44 :: (intT t ++ [41])) := by
      unfold spanT
      rw [if_neg (fun e => hb (by injection e with e1 e2; exact ⟨e1, e2⟩))]
    have hcell : ∀ L : Later W, L.val.cell? ⟨w.heap.size, 0, none⟩ = some (.int .i64 f) ∧ L.val.cell? ⟨w.heap.size, 1, none⟩ = some (.int .i64 t) := fun L => by
      have hlt := lt_of_block hbx
      rw [L.cell _ (show w.heap.size < _ from hlt), L.cell _ (show w.heap.size < _ from hlt)]
      exact ⟨c0, c1⟩
    have k0 := fun L => (hcell L).1
    have k1 := fun L => (hcell L).2
    rw [hsp]
    have hne : ¬ f = -1 ∨ f = -1 ∧ ¬ t = -1 := by omega
    have Hn := Lib.hid (And.intro hn1 hn2)
    generalize intS f = u at *
    generalize intS t = v at *
    have f1 : (9223372036854775807 < 1 + u.size) = False := by simp; omega
    have f2 : (9223372036854775807 < 1 + u.size + 1) = False := by simp; omega
    have f3 : (9223372036854775807 < 1 + u.size + 1 + v.size) = False := by simp; omega
    have f4 : (9223372036854775807 < 1 + u.size + 1 + v.size + 1) = False := by simp; omega
    have Hi := Lib.hid (And.intro hi1 hi2)
    clear hal hbx hi1 hi2 hs1 hs2 hn1 hn2 hf ht hP hb hsp hcell
    rcases hne with hne | ⟨rfl, hne⟩
    all_goals
      go_enter Tryd.func42, Tryd.ntmps42
      go_upto_region 1 with fail
      rw [← hW]
      clear hW
      go_upto_region 3 with fail
      have hnn : Nonempty (Later W) := Later.nonempty W
      refine wp_region_later (Below.refl _ _) (by kernel_rfl) (by kernel_rfl) ?_
      repeat (first | go_big_quiet_step (fail) | go_big_quiet_step (exact Later.calls (Hi.out.1 _)) | go_big_quiet_step (exact Later.calls (Hi.out.2 _)))
      refine wpQuiet_nil ?_
      intro w' hw'
      obtain ⟨L', rfl⟩ := hw'
      go_wp2_with fail
      go_ret
      refine ⟨⟨_, rfl, ?_⟩, Hal.out.trans (L'.ok.mono Hal.out.size)⟩
      rw [nats_add, nats_add, nats_add, nats_add, Hn.out.1, Hn.out.2]
      simp [nats]
/-- texts with blanks between -/
def joinS : List (List Nat) → List Nat
  | [] => []
  | [x] => x
  | x :: y :: l => x ++ 32 :: joinS (y :: l)
theorem joinS_snoc : ∀ (l : List (List Nat)) (x : List Nat), l ≠ [] → joinS (l ++ [x]) = joinS l ++ 32 :: x
  | [], x, h => absurd rfl h
  | [y], x, _ => rfl
  | y :: z :: l, x, _ => by
    have h := joinS_snoc (z :: l) x (by simp)
    show y ++ 32 :: joinS ((z :: l) ++ [x]) = (y ++ 32 :: joinS (z :: l)) ++ 32 :: x
    rw [h, List.append_assoc]; rfl
def slT (l : Sl) : List Nat := joinS (l.map spanT)
theorem spanT_len (q : Int × Int) (h1 : fits64 q.1) (h2 : fits64 q.2) : (spanT q).length ≤ 43 := by
  unfold spanT
  split
  · decide
  · have e : ∀ n, (intT n).length = (intS n).size := fun n => by
      show ((Lib.itoa n).map UInt8.toNat).length = (Lib.itoa n).toArray.size
      rw [List.length_map, List.size_toArray]
    have := intS_size q.1 h1
    have := intS_size q.2 h2
    simp only [List.length_cons, List.length_append, List.length_nil, e]
    omega
theorem slT_step (l : Sl) (j : Nat) (hj : j < l.length) : slT (l.take (j + 1)) = slT (l.take j) ++ (if j = 0 then [] else [32]) ++ spanT l[j] := by
  unfold slT
  rw [List.take_succ_eq_append_getElem hj, List.map_append]
  by_cases h0 : j = 0
  · subst h0
    rw [if_pos rfl, List.take_zero]
    rfl
  · rw [if_neg h0]
    have hne : (l.take j).map spanT ≠ [] := by
      intro e
      have := congrArg List.length e
      rw [List.length_map, List.length_take, List.length_nil] at this
      omega
    rw [show [l[j]].map spanT = [spanT l[j]] from rfl, joinS_snoc _ _ hne, List.append_assoc]; rfl
theorem slT_len (l : Sl) (h : ∀ q ∈ l, fits64 q.1 ∧ fits64 q.2) (j : Nat) (hj : j ≤ l.length) : (slT (l.take j)).length ≤ 44 * j := by
  induction j with
  | zero => rw [List.take_zero]; simp [slT, joinS]
  | succ j ih =>
    have := ih (by omega)
    have hq := h l[j] (List.getElem_mem _)
    have := spanT_len l[j] hq.1 hq.2
    rw [slT_step l j (by omega), List.length_append, List.length_append]
    split <;> simp <;> omega
theorem spanT_lt (q : Int × Int) : ∀ x ∈ spanT q, x < 256 := by
  intro x hx
  have e : ∀ n, ∀ x ∈ intT n, x < 256 := fun n x hx => by
    obtain ⟨u, _, rfl⟩ := List.mem_map.1 hx
    exact u.toNat_lt
  unfold spanT at hx
  split at hx
  · simp at hx; omega
  · simp only [List.mem_cons, List.mem_append, List.mem_nil_iff, or_false] at hx
    rcases hx with rfl | hx | rfl | hx | rfl
    · decide
    · exact e _ x hx
    · decide
    · exact e _ x hx
    · decide
theorem slT_lt (l : Sl) : ∀ x ∈ slT l, x < 256 := by
  have h : ∀ j, j ≤ l.length → ∀ x ∈ slT (l.take j), x < 256 := by
    intro j
    induction j with
    | zero => intro _ x hx; rw [List.take_zero] at hx; cases hx
    | succ j ih =>
      intro hj x hx
      rw [slT_step l j (by omega), List.mem_append, List.mem_append] at hx
      rcases hx with (hx | hx) | hx
      · exact ih (by omega) x hx
      · split at hx
        · cases hx
        · rw [List.mem_singleton] at hx; omega
      · exact spanT_lt _ x hx
  have := h l.length (Nat.le_refl _)
  rwa [List.take_length] at this
set_option maxHeartbeats 4000000 in
theorem text_any {l : Sl} (hl : l.length ≤ 1000000) (hfit : ∀ q ∈ l, fits64 q.1 ∧ fits64 q.2) {a : Option Addr} {cap' : Nat} {w : World} (h : SpAt w a cap' l) (hP : PowAt w) :
    Calls Tryd.prog 23 #[.slice a l.length cap'] w (TextIs w (slT l)) := by
  obtain ⟨W, hW⟩ : ∃ W, W = w.alloc (.cells #[.pointer none, .slice none 0 0] 90) := ⟨_, rfl⟩
  have hal : Below w.heap.size w W := by rw [hW]; exact K.alloc_below _ _
  have hb0 : Bld W w.heap.size w.heap.size [] (.slice none 0 0) := by rw [hW]; exact bld_fresh w
  obtain ⟨n, hn⟩ : ∃ n, n = l.length := ⟨_, rfl⟩
  rw [← hn]
  have hnI : (n : Int) ≤ 9223372036854775807 := by omega
  have H0 := Lib.hid (And.intro hb0 hal)
  have Hsp := Lib.hid (And.intro h (And.intro hP hfit))
  have HN := Lib.hid (And.intro hn hl)
  clear hb0 hal h hP hfit hn hl
  go_enter Tryd.func23, Tryd.ntmps23
  go_upto_region 2 with fail
  rw [← hW]
  clear hW
  go_wp2_with fail
  go_loopw [8] (fun i wr => ∃ (j : Nat) (v : Value), i = .int .i64 j ∧ j ≤ n ∧ Hid (Bld wr w.heap.size w.heap.size (slT (l.take j)) v) ∧ Hid (Below w.heap.size w wr)) (fun i _ => n - (intOf i).toNat)
  case atStart => exact ⟨0, _, rfl, Nat.zero_le _, Lib.hid (by rw [List.take_zero]; exact H0.out.1), Lib.hid H0.out.2⟩
  case round =>
    obtain ⟨j, v, rfl, hj, hB, hbr⟩ := hrel
    by_cases hjn : j < n
    · have hd : decide ((j : Int) < n) = true := by simp; omega
      have hjl : j < l.length := by have := HN.out.1; omega
      obtain ⟨bn, off, rfl, hcap, hbn, hcells⟩ := Hsp.out.1.2.resolve_left (by omega)
      have hc := hcells j hjl
      have hq := Hsp.out.2.2 l[j] (List.getElem_mem hjl)
      have hst := slT_step l j hjl
      have hlen := slT_len l Hsp.out.2.2 j (by omega)
      have hsl := spanT_len l[j] hq.1 hq.2
      generalize l[j] = q at hc hq hst hsl
      obtain ⟨f, t⟩ := q
      have c0 : wr.cell? ⟨bn, off + j * 2, none⟩ = some (.int .i64 f) := by rw [hbr.out.cell (p := ⟨bn, off + j * 2, none⟩) hbn]; exact hc.1
      have c1 : wr.cell? ⟨bn, off + j * 2 + 1, none⟩ = some (.int .i64 t) := by rw [hbr.out.cell (p := ⟨bn, off + j * 2 + 1, none⟩) hbn]; exact hc.2
      have hcapI : (n : Int) ≤ cap' := by have := HN.out.1; omega
      obtain ⟨w1, hw1⟩ : ∃ w1, w1 = wr.alloc (.cells #[.int .i64 f, .int .i64 t] 47) := ⟨_, rfl⟩
      have hal1 : Below wr.heap.size wr w1 := by rw [hw1]; exact K.alloc_below _ _
      have hx1 : w1.heap[wr.heap.size]? = some (.cells #[.int .i64 f, .int .i64 t] 47) := by rw [hw1]; exact World.alloc_heap_new wr _
      have hB1 := hB.out.later hal1
      have hb1 := hbr.out.trans (hal1.mono hbr.out.size)
      have d0 : w1.cell? ⟨wr.heap.size, 0, none⟩ = some (.int .i64 f) := by rw [cells_at hx1]; rfl
      have d1 : w1.cell? ⟨wr.heap.size, 1, none⟩ = some (.int .i64 t) := by rw [cells_at hx1]; rfl
      have hne : v.ownBlock ≠ some wr.heap.size := hB1.ownKind hx1 (by decide)
      have hwn : wr.heap.size ≠ w.heap.size := by have := hB.out.lt; omega
      have hs1 : w.heap.size ≤ w1.heap.size := hb1.size
      have hlt1 : wr.heap.size < w1.heap.size := lt_of_block hx1
      have H1 := Lib.hid (And.intro hB1 (And.intro hb1 (And.intro hs1 (And.intro hlt1 (And.intro hne hwn)))))
      have Hst := Lib.hid (And.intro hst (And.intro hlen hsl))
      have Hq := Lib.hid hq
      have HjL := Lib.hid hjl
      clear hst hlen hsl hq hB1 hb1 hs1 hlt1 hne hwn hal1 hx1 hc hcells hbn hcap hB hjl hbr
      by_cases hj0 : j = 0
      · have e0 : decide ((0 : Int) < (j : Int)) = false := by simp; omega
        have e1 : decide (0 < j) = false := by simp; omega
        have Hj0 := Lib.hid hj0
        clear hj0
        go_upto_region 5 with fail
        rw [← hw1]
        clear hw1
        go_wp2_with (first
          | (go_at_call 42; refine (span_text f t Hq.out.1 Hq.out.2 _ (pow_below Hsp.out.2.1 H1.out.2.1)).mono ?_; rintro e w3 ⟨⟨s, rfl, hs⟩, hb3⟩; have hss := size_nats hs; have H3 := Lib.hid (And.intro hs (And.intro hb3 hss)); clear hs hb3 hss)
          | (go_at_call 41; refine (write_text _ _ _ v s _ (H1.out.1.later H3.out.2.1) (by have := Hst.out; have := H3.out.2.2; have := HN.out; omega) (Nat.le_trans H1.out.2.2.1 H3.out.2.1.size)).mono ?_; rintro e w4 ⟨rfl, v', hB4, hw4⟩; have H4 := Lib.hid (And.intro hB4 hw4); clear hB4 hw4)
          | fail)
        go_roundw
        case rel =>
          refine ⟨j + 1, v', by go_num, by omega, Lib.hid ?_, Lib.hid ((H1.out.2.1.trans (H3.out.2.1.mono H1.out.2.2.1)).trans H4.out.2.below)⟩
          have := H4.out.1
          rw [H3.out.1] at this
          rw [Hst.out.1, if_pos Hj0.out, List.append_nil]
          exact this
        case measure => simp [intOf]; omega
      · have e0 : decide ((0 : Int) < (j : Int)) = true := by simp; omega
        have e1 : decide (0 < j) = true := by simp; omega
        have Hj0 := Lib.hid hj0
        clear hj0
        go_upto_region 5 with fail
        rw [← hw1]
        clear hw1
        go_wp2_with (first
          | (go_at_call 40; refine (write_byte _ _ _ v 32 _ H1.out.1 (by have := Hst.out; have := HN.out; omega) H1.out.2.2.1).mono ?_; rintro e w2 ⟨rfl, v2, hB2, hw2⟩
             have g0 : w2.cell? ⟨wr.heap.size, 0, none⟩ = some (.int .i64 f) := by rw [World.cell?_of_block (hw2.keep wr.heap.size H1.out.2.2.2.1 H1.out.2.2.2.2.2 H1.out.2.2.2.2.1)]; exact d0
             have g1 : w2.cell? ⟨wr.heap.size, 1, none⟩ = some (.int .i64 t) := by rw [World.cell?_of_block (hw2.keep wr.heap.size H1.out.2.2.2.1 H1.out.2.2.2.2.2 H1.out.2.2.2.2.1)]; exact d1
             have H2 := Lib.hid (And.intro hB2 (H1.out.2.1.trans hw2.below)); clear hB2 hw2)
          | (go_at_call 42; refine (span_text f t Hq.out.1 Hq.out.2 _ (pow_below Hsp.out.2.1 H2.out.2)).mono ?_; rintro e w3 ⟨⟨s, rfl, hs⟩, hb3⟩; have hss := size_nats hs; have H3 := Lib.hid (And.intro hs (And.intro hb3 hss)); clear hs hb3 hss)
          | (go_at_call 41; refine (write_text _ _ _ v2 s _ (H2.out.1.later H3.out.2.1) (by have := Hst.out; have := H3.out.2.2; have := HN.out; rw [List.length_append, List.length_singleton]; omega) (Nat.le_trans H2.out.2.size H3.out.2.1.size)).mono ?_; rintro e w4 ⟨rfl, v', hB4, hw4⟩; have H4 := Lib.hid (And.intro hB4 hw4); clear hB4 hw4)
          | fail)
        go_roundw
        case rel =>
          refine ⟨j + 1, v', by go_num, by omega, Lib.hid ?_, Lib.hid ((H2.out.2.trans (H3.out.2.1.mono H2.out.2.size)).trans H4.out.2.below)⟩
          have := H4.out.1
          rw [H3.out.1] at this
          rw [Hst.out.1, if_neg Hj0.out]
          exact this
        case measure => simp [intOf]; omega
    · have hd : decide ((j : Int) < n) = false := by simp; omega
      obtain rfl : j = n := by omega
      have hlj : l.take j = l := List.take_of_length_le (by have := HN.out; omega)
      rw [hlj] at hB
      have Hlt := Lib.hid (slT_lt l)
      go_wp2_with fail
      refine (bld_string _ _ _ v _ hB.out Hlt.out (Nat.le_of_lt hB.out.lt)).mono ?_
      rintro e w3 ⟨rfl, hb3⟩
      have Hb3 := Lib.hid hb3
      clear hb3
      go_wp2_with fail
      go_ret
      exact ⟨⟨_, rfl, nats_bytes Hlt.out⟩, hbr.out.trans Hb3.out⟩
end V
end Go.Proofs.YtonhmjfopidacaaDoor
