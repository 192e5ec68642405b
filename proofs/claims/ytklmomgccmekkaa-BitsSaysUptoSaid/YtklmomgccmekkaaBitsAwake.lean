/- Closed calls of bits.Get and bits.Put; law 11's awake. -/
import Derived.Test.YtklmomgccmekkaaBitsRd
import Derived.Test.YtklmomgccmekkaaBitsPut
import Derived.Test.YtklmomgccmekkaaClosed
namespace Go.Proofs.Ytklmomgccmekkaa
namespace V
set_option maxRecDepth 100000
open Go.RowKit
theorem wpList_conv_bytes {ops : Array Oper} {rest : List Oper} {o : Oper} {a : Act} {w : World} {Q : Exit → Act → World → Prop} (hgd : o.guard = none) (x : Operand) (ho : o.op = .convert 39 39 x) (b n c : Nat) (cs : Array Value) (t : TypeId)
    (hx : a.eval x = .slice (some ⟨b, 0, none⟩) n c) (hb : w.heap[b]? = some (.cells cs t (0, 0)))
    (h : ∀ w', Only b w w' → (∀ p, w'.cell? p = w.cell? p) → wpList Try.prog ops Q rest (a.put o.dst (.slice (some ⟨b, 0, none⟩) n c)) w') : wpList Try.prog ops Q (o :: rest) a w :=
  wpList_plain hgd fun _ hK => wp_conv_bytes x ho b n c cs t hx hb fun w' h1 h2 => hK _ _ (h w' h1 h2)
/-- all cells stay -/
theorem val_cells {w w' : World} {v : Vl} {cs : List Value} (h : Vl.at w v cs) (hc : ∀ p, w'.cell? p = w.cell? p) (hs : w.heap.size ≤ w'.heap.size) : Vl.at w' v cs := Vl.at_move (fun p _ hp => (hc p).trans hp) hs v cs h
theorem core_cells {w w' : World} {x : K.Cr} {cs : List Value} (h : K.Cr.at w x cs) (hc : ∀ p, w'.cell? p = w.cell? p) (hs : w.heap.size ≤ w'.heap.size) : K.Cr.at w' x cs := K.Cr.at_same (fun p _ hp => (hc p).trans hp) hs x cs h
theorem val3_cells {w w' : World} {b off : Nat} {cs : List Value} (h : Val3 w b off cs) (hc : ∀ p, w'.cell? p = w.cell? p) : Val3 w' b off cs := ⟨h.1, fun q hq => (hc _).trans (h.2 q hq)⟩
theorem core7_cells {w w' : World} {b off : Nat} {cs : List Value} (h : K.Core7 w b off cs) (hc : ∀ p, w'.cell? p = w.cell? p) : K.Core7 w' b off cs := ⟨h.1, fun q hq => (hc _).trans (h.2 q hq)⟩
/-- Get's answer, known -/
def GetIs (w : World) (v : Vl) (b : Int) (e : Ending) (w' : World) : Prop :=
  ∃ (k : Int) (z : Nat) (a : Option Addr) (len cap : Nat), e = .returned (.tuple #[.agg #[.int .i64 k, .int .u8 z, .slice a len cap], .int .i64 b]) ∧ Vl.at w' v [.int .i64 k, .int .u8 z, .slice a len cap] ∧ Below w.heap.size w w'
theorem get_eq {c : K.Cr} {cs : List Value} {w : World} {t : ByteArray} {a : Option Addr} {n cap : Nat} {s : List Nat} {v : Vl} {b : Int} (hat : K.Cr.at w c cs) (hs : BytesAt w a n cap s) (ht : t.size ≤ 9223372036854775807)
    (h : ((resG c (nats t) s).1.same v && decide ((resG c (nats t) s).2 = b)) = true) :
    Calls Try.prog 15 #[.agg cs.toArray, .string t, .slice a n cap] w (GetIs w v b) := by
  refine (get_any hat hs ht).mono ?_
  rintro e w' ⟨k, z, a, len, cap, rfl, hv, hb⟩
  rw [Bool.and_eq_true, decide_eq_true_eq] at h
  obtain ⟨h1, rfl⟩ := h
  have h1 := Vl.same_eq _ _ h1
  exact ⟨k, z, a, len, cap, rfl, by rw [← h1]; exact hv.at, hb⟩
theorem put_eq {v : Vl} {cs : List Value} {w : World} {t : ByteArray} (hat : Vl.at w v cs) (h : (decide (v.put = nats t) && decide (v.count < 1000)) = true) :
    Calls Try.prog 18 #[.agg cs.toArray] w fun e w' => e = .returned (.string t) ∧ Below w.heap.size w w' := by
  rw [Bool.and_eq_true, decide_eq_true_eq, decide_eq_true_eq] at h
  refine (put_walk hat (by have := put_le v; unfold most; omega)).mono ?_
  rintro e w' ⟨⟨u, rfl, hu⟩, hb⟩
  exact ⟨by rw [of_nats (hu.trans h.1)], hb⟩
def bA : BitVec 256 := setOf [97]
def bB : BitVec 256 := setOf [98]
set_option maxHeartbeats 16000000 in
theorem awake11_any (w : World) : Calls Try.prog 9 #[] w fun e w' => e = .returned (.bool true) ∧ Below w.heap.size w w' := by
  obtain ⟨W1, hW1⟩ : ∃ W1, W1 = (w.alloc (.cells #[.int .i64 2, .int .u8 97, .slice none 0 0] 35)).alloc (.cells #[.int .i64 4, .int .u8 0, .slice (some ⟨w.heap.size, 0, none⟩) 1 1] 35) := ⟨_, rfl⟩
  have hal : Below w.heap.size w W1 := by rw [hW1]; exact ((Below.refl _ _).alloc (Nat.le_refl _) _).alloc (by simp) _
  have hs1 : W1.heap.size = w.heap.size + 1 + 1 := by rw [hW1]; simp
  have hl0 : W1.heap[w.heap.size]? = some (.cells #[.int .i64 2, .int .u8 97, .slice none 0 0] 35) := by rw [hW1]; exact (Below.heap_alloc _ _ _ (by simp)).trans (World.alloc_heap_new w _)
  have hv1 : ValIn W1 (w.heap.size + 1) #[.int .i64 4, .int .u8 0, .slice (some ⟨w.heap.size, 0, none⟩) 1 1] := by rw [hW1]; have h := World.alloc_heap_new (w.alloc (.cells #[.int .i64 2, .int .u8 97, .slice none 0 0] 35)) (.cells #[.int .i64 4, .int .u8 0, .slice (some ⟨w.heap.size, 0, none⟩) 1 1] 35); rw [World.size_alloc] at h; exact h
  have hat1 : Vl.at W1 (.mk 4 0 [.mk 2 97 []]) [.int .i64 4, .int .u8 0, .slice (some ⟨w.heap.size, 0, none⟩) 1 1] := at_made (k := 4) (z := 0) rfl (by decide) [(.mk 2 97 [], [.int .i64 2, .int .u8 97, .slice none 0 0])] (by decide) (fun p hp => by rw [List.mem_singleton] at hp; subst hp; exact at_plain rfl (by decide)) hl0
  have hb3 : Val3 W1 (w.heap.size + 1) 0 [.int .i64 4, .int .u8 0, .slice (some ⟨w.heap.size, 0, none⟩) 1 1] := val3_in hv1 rfl
  have H1 := Lib.hid (And.intro hal (And.intro hs1 (And.intro hat1 hb3)))
  clear hal hs1 hl0 hv1 hat1 hb3
  go_enter Try.func9, Try.ntmps9
  go_upto_region 2 with fail
  rw [← hW1]
  clear hW1
  go_wp2_with fail
  refine (ch_eq (s := bA) (bytes_lit W1 [97] #[.int .u8 97] rfl (by decide) (by decide)) rfl).mono ?_
  rintro e w2 ⟨z2, rfl, hat2, hb2⟩
  obtain ⟨k2, s2, n2, a2, len2, cap2, rfl⟩ := K.at_lit hat2
  have H2 := Lib.hid (And.intro hat2 ((K.alloc_below W1 _).trans (hb2.mono (by simp))))
  clear hat2 hb2
  go_wp2_with fail
  refine (ch_eq (s := bB) (bytes_lit w2 [98] #[.int .u8 98] rfl (by decide) (by decide)) rfl).mono ?_
  rintro e w3 ⟨z3, rfl, hat3, hb3⟩
  obtain ⟨k3, s3, n3, a3, len3, cap3, rfl⟩ := K.at_lit hat3
  have H3 := Lib.hid (And.intro hat3 ((K.alloc_below w2 _).trans (hb3.mono (by simp))))
  clear hat3 hb3
  go_wp2_with fail
  refine (K.alt_walk (K.Cr.at_below H3.out.2 (Nat.le_refl _) _ _ H2.out.1) H3.out.1).mono ?_
  rintro e w4 ⟨z4, rfl, hat4, hb4⟩
  obtain ⟨k4, s4, n4, a4, len4, cap4, rfl⟩ := K.at_lit hat4
  have H4 := Lib.hid (And.intro hat4 hb4)
  clear hat4 hb4
  go_wp2_with (first
    | (refine wpList_conv_bytes rfl _ rfl w4.heap.size 1 1 #[.int .u8 97] 5 rfl (World.alloc_heap_new w4 _) ?_; intro w5 ho5 hc5; have H5 := Lib.hid (And.intro ho5 hc5); clear ho5 hc5)
    | fail)
  have hb1 : Below w.heap.size w w4 := H1.out.1.trans ((H2.out.2.trans ((H3.out.2.trans (H4.out.2.mono H3.out.2.size)).mono H2.out.2.size)).mono H1.out.1.size)
  have h14 : Below W1.heap.size W1 w4 := H2.out.2.trans ((H3.out.2.trans (H4.out.2.mono H3.out.2.size)).mono H2.out.2.size)
  have hsz5 : w5.heap.size = w4.heap.size + 1 := by rw [H5.out.1.size, World.size_alloc]
  have hby : BytesAt w5 (some ⟨w4.heap.size, 0, none⟩) 1 1 [97] := bytesAt_cells (bytes_lit w4 [97] #[.int .u8 97] rfl (by decide) (by decide)) H5.out.2 (by rw [H5.out.1.size]; exact Nat.le_refl _)
  have hal4 : Below w4.heap.size w4 w5 := H5.out.1.below (K.alloc_below w4 _) (Nat.le_refl _)
  have h15 := h14.trans (hal4.mono h14.size)
  have hget := get_eq (t := ⟨#[48]⟩) (v := .mk 4 0 [.mk 2 97 []]) (b := 0) (K.Cr.at_below hal4 (Nat.le_refl _) _ _ H4.out.1) hby (by decide) (by decide +kernel)
  have H6 := Lib.hid (And.intro (hb1.trans (hal4.mono hb1.size)) (And.intro (Vl.at_below h15 (Nat.le_refl _) _ _ H1.out.2.2.1) (H1.out.2.2.2.below (by have := H1.out.2.1; omega) h15)))
  have Hget := Lib.hid hget
  clear hb1 h14 hsz5 hby hal4 h15 hget
  refine Hget.out.mono ?_
  rintro e w6 ⟨k6, z6, a6, len6, cap6, rfl, hat6, hb6⟩
  obtain ⟨w7, hw7⟩ : ∃ w7, w7 = w6.alloc (.cells #[.int .i64 k6, .int .u8 z6, .slice a6 len6 cap6] 35) := ⟨_, rfl⟩
  have hal7 : Below w6.heap.size w6 w7 := by rw [hw7]; exact K.alloc_below _ _
  have hx7 : ValIn w7 w6.heap.size #[.int .i64 k6, .int .u8 z6, .slice a6 len6 cap6] := by rw [hw7]; exact World.alloc_heap_new w6 _
  have h57 := hb6.trans (hal7.mono hb6.size)
  have hat7 := Vl.at_below hal7 (Nat.le_refl _) _ _ hat6
  have hx73 : Val3 w7 w6.heap.size 0 [.int .i64 k6, .int .u8 z6, .slice a6 len6 cap6] := val3_in hx7 rfl
  have hv7 := Vl.at_below h57 (Nat.le_refl _) _ _ H6.out.2.1
  have hv73 := H6.out.2.2.below H6.out.2.2.lt h57
  have H7 := Lib.hid (And.intro (H6.out.1.trans (h57.mono H6.out.1.size)) (And.intro hat7 (And.intro hx73 (And.intro hv7 hv73))))
  have hput := put_eq (t := ⟨#[48]⟩) hv7 (by decide +kernel)
  have Hput := Lib.hid hput
  clear hal7 hx7 h57 hat7 hx73 hv7 hv73 hput hat6 hb6
  go_upto_region 3 with fail
  rw [← hw7]
  clear hw7
  go_wp2_with (first
    | (refine wpList_load_val rfl _ rfl (w.heap.size + 1) 0 _ rfl H7.out.2.2.2.2 ?_)
    | fail)
  refine Hput.out.mono ?_
  rintro e w8 ⟨rfl, hb8⟩
  have H8 := Lib.hid (And.intro (H7.out.2.2.1.below H7.out.2.2.1.lt hb8) (And.intro (H7.out.2.2.2.2.below H7.out.2.2.2.2.lt hb8) (And.intro (same_eq (b := true) (Vl.at_below hb8 (Nat.le_refl _) _ _ H7.out.2.1) (Vl.at_below hb8 (Nat.le_refl _) _ _ H7.out.2.2.2.1) (by decide +kernel)) (H7.out.1.trans (hb8.mono H7.out.1.size)))))
  clear hb8
  go_wp2_with (first
    | (refine wpList_load_val_want rfl _ rfl w6.heap.size 0 _ rfl H8.out.1 ?_)
    | (refine wpList_load_val_want rfl _ rfl (w.heap.size + 1) 0 _ rfl H8.out.2.1 ?_)
    | fail)
  refine H8.out.2.2.1.mono ?_
  rintro e w9 ⟨rfl, hb9⟩
  have H9 := Lib.hid hb9
  clear hb9
  go_wp2_with fail
  go_ret
  exact ⟨rfl, H8.out.2.2.2.trans (H9.out.mono H8.out.2.2.2.size)⟩
end V
end Go.Proofs.Ytklmomgccmekkaa
