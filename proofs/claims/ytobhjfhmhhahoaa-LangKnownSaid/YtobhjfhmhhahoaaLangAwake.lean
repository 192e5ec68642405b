/- law 9's awake; steps of closed statements. -/
import Derived.Test.YtobhjfhmhhahoaaLangLaw
import Derived.Test.YtobhjfhmhhahoaaCoreBig
import Derived.Test.YtobhjfhmhhahoaaEq
namespace Go.Proofs.Ytobhjfhmhhahoaa
namespace K
set_option maxRecDepth 100000
open Go.RowKit
theorem hop {w0 X wN : World} (hb : Below X.heap.size X wN) (bx : Below w0.heap.size w0 X) : Below w0.heap.size w0 wN := bx.trans (hb.mono bx.size)
theorem ch_eq {a : Option Addr} {n cap : Nat} {l : List Nat} {w : World} (hl : BytesAt w a n cap l) {s : BitVec 256} (hs : setOf l = s) : Calls Try.prog 10 #[.slice a n cap] w (CoreNew (.mk 2 s 0 []) w) := by
  subst hs; exact ch_walk hl
theorem of_eq {a : Option Addr} {n cap : Nat} {l : List Nat} {w : World} (hl : BytesAt w a n cap l) {s : BitVec 256} (hs : setOf l = s) : Calls Try.prog 17 #[.slice a n cap] w fun e w' => e = .returned (SV s) ∧ Below w.heap.size w w' := by
  subst hs; exact of_any a n cap l w hl
theorem ends_eq' {x : Cr} {cs : List Value} {w : World} (hat : Cr.at w x cs) {a : Option Addr} {n cap : Nat} {l : List Nat} (hl : BytesAt w a n cap l) (z : Int) {L : List Nat} (h : endsC x l z = L) : Calls Try.prog 13 #[.agg cs.toArray, .slice a n cap, .int .i64 z] w fun e w' => ∃ v, e = .returned v ∧ NatsAt w' v L ∧ Below w.heap.size w w' := by
  subst h; exact (lang_ends hat hl z).mono fun _ _ h => natRow_at h
theorem says_eq {x : Cr} {cs : List Value} {w : World} (hat : Cr.at w x cs) {a : Option Addr} {n cap : Nat} {l : List Nat} (hl : BytesAt w a n cap l) {b : Bool} (h : saysC x l = b) : Calls Try.prog 15 #[.agg cs.toArray, .slice a n cap] w fun e w' => e = .returned (.bool b) ∧ Below w.heap.size w w' := by
  subst h; exact lang_says hat hl
theorem null_eq {x : Cr} {cs : List Value} {w : World} (hat : Cr.at w x cs) {b : Bool} (h : nullC x = b) : Calls Try.prog 14 #[.agg cs.toArray] w fun e w' => e = .returned (.bool b) ∧ Below w.heap.size w w' := by
  subst h; exact lang_null hat
theorem ints_eq {v u : Value} {l m : List Nat} {w : World} (hv : NatsAt w v l) (hu : NatsAt w u m) {b : Bool} (h : decide (l = m) = b) : Calls Try.prog 12 #[v, u] w fun e w' => e = .returned (.bool b) ∧ Below w.heap.size w w' := by
  subst h; exact ints_walk hv hu
theorem nats_lit (w : World) (l : List Nat) (cs : Array Value) (h : cs.toList = natsV l) (hn : l.length ≤ maxLen) : NatsAt (w.alloc (.cells cs 3)) (.slice (some ⟨w.heap.size, 0, none⟩) l.length l.length) l := by
  refine ⟨_, _, rfl, hn, .inr ⟨w.heap.size, rfl, Nat.le_refl _, by simp, fun j n hj => ?_⟩⟩
  rw [cells_at (World.alloc_heap_new w _), ← Array.getElem?_toList, h]
  simp [natsV, hj]
theorem bytes_nil (w : World) (cap : Nat) (a : Option Addr) : BytesAt w a 0 cap [] := ⟨rfl, by simp, by decide, .inl rfl⟩
theorem wpList_conv_want {ops : Array Oper} {rest : List Oper} {o : Oper} {a : Act} {w : World} {Q : Exit → Act → World → Prop} (hw : Region.wanted o (yielded ops a.tmps) = true) (x : Operand) (ho : o.op = .convert 35 35 x) (b n c : Nat) (cs : Array Value) (t : TypeId)
    (hx : a.eval x = .slice (some ⟨b, 0, none⟩) n c) (hb : w.heap[b]? = some (.cells cs t (0, 0)))
    (h : ∀ w', Only b w w' → (∀ p, w'.cell? p = w.cell? p) → wpList Try.prog ops Q rest (a.put o.dst (.slice (some ⟨b, 0, none⟩) n c)) w') : wpList Try.prog ops Q (o :: rest) a w :=
  BigFrame.wpList_want hw fun _ hK => wp_conv_bytes x ho b n c cs t hx hb fun w' h1 h2 => hK _ _ (h w' h1 h2)
set_option maxHeartbeats 8000000 in
theorem awake9_walk (w : World) : Calls Try.prog 7 #[] w fun e w' => e = .returned (.bool true) ∧ Below w.heap.size w w' := by
  obtain ⟨sA, hsA⟩ : ∃ s, setOf [97] = s := ⟨_, rfl⟩
  have HsA := Lib.hid hsA
  have F1 : Hid (endsC (.mk 5 0 0 [.mk 2 sA 0 []]) [97, 97, 98] 0 = [0, 1, 2]) := Lib.hid (by rw [← hsA]; decide +kernel)
  have F2 : Hid (nullC (.mk 5 0 0 [.mk 2 sA 0 []]) = true) := Lib.hid (by rw [← hsA]; decide +kernel)
  have F3 : Hid (saysC (.mk 2 sA 0 []) [97] = true) := Lib.hid (by rw [← hsA]; decide +kernel)
  have H0 := Lib.hid (Below.refl w.heap.size w)
  clear hsA
  go_enter Try.func7, Try.ntmps7
  go_wp2_with fail
  refine (ch_eq (bytes_lit _ [97] #[.int .u8 97] rfl (by decide) (by decide)) HsA.out).mono ?_
  rintro e w1 ⟨zs1, rfl, hat, hb⟩
  have HS := Lib.hid (hop (w0 := w) hb (by repeat (first | exact Below.refl _ _ | refine Below.alloc ?_ (by first | exact Nat.le_refl _ | (simp; done) | (simp; omega)) _)))
  have H1 := Lib.hid (H0.out.trans (HS.out.mono H0.out.size))
  obtain ⟨k1, s1, n1, a1, len1, cap1, rfl⟩ := K.at_lit hat
  have A1 := Lib.hid hat
  clear hat hb HS
  go_wp2_with fail
  refine (star_walk (Cr.at_below (by repeat (first | exact Below.refl _ _ | refine Below.alloc ?_ (by first | exact Nat.le_refl _ | (simp; done) | (simp; omega)) _)) (Nat.le_refl _) _ _ A1.out)).mono ?_
  rintro e w2 ⟨zs2, rfl, hat, hb⟩
  have HS := Lib.hid (hop (w0 := w1) hb (by repeat (first | exact Below.refl _ _ | refine Below.alloc ?_ (by first | exact Nat.le_refl _ | (simp; done) | (simp; omega)) _)))
  have H2 := Lib.hid (H1.out.trans (HS.out.mono H1.out.size))
  obtain ⟨k2, s2, n2, a2, len2, cap2, rfl⟩ := K.at_lit hat
  have A2 := Lib.hid hat
  clear hat hb HS
  go_wp2_with (first
    | (refine K.wpList_conv_want rfl _ rfl _ 3 3 #[.int .u8 97, .int .u8 97, .int .u8 98] 5 rfl (World.alloc_heap_new _ _) ?_
       intro wc ho hc
       have BC := Lib.hid (bytesAt_cells (bytes_lit _ [97, 97, 98] #[.int .u8 97, .int .u8 97, .int .u8 98] rfl (by decide) (by decide)) hc (Nat.le_of_eq ho.size.symm))
       have HO2 := Lib.hid ho
       clear ho hc
       try simp only [Act.put, List.setIfInBounds_toArray, List.set_cons_zero, List.set_cons_succ])
    | fail)
  refine (ends_eq' (Cr.at_below (by repeat (first | exact Below.refl _ _ | refine HO2.out.below ?_ (by first | exact Nat.le_refl _ | (simp; done) | (simp; omega)) | refine Below.alloc ?_ (by first | exact Nat.le_refl _ | (simp; done) | (simp; omega)) _)) (Nat.le_refl _) _ _ A2.out) BC.out 0 F1.out).mono ?_
  rintro e w3 ⟨v3, rfl, hat, hb⟩
  have HS := Lib.hid (hop (w0 := w2) hb (by repeat (first | exact Below.refl _ _ | refine HO2.out.below ?_ (by first | exact Nat.le_refl _ | (simp; done) | (simp; omega)) | refine Below.alloc ?_ (by first | exact Nat.le_refl _ | (simp; done) | (simp; omega)) _)))
  have H3 := Lib.hid (H2.out.trans (HS.out.mono H2.out.size))
  have A2 := Lib.hid (Cr.at_below HS.out (Nat.le_refl _) _ _ A2.out)
  have A3 := Lib.hid hat
  obtain ⟨a3, cap3, hv3, _⟩ := hat
  subst hv3
  clear hb HS
  go_wp2_with fail
  refine (ints_eq (NatsAt.below A3.out (by repeat (first | exact Below.refl _ _ | refine Below.alloc ?_ (by first | exact Nat.le_refl _ | (simp; done) | (simp; omega)) _))) (nats_lit _ [0, 1, 2] _ rfl (by decide)) (b := true) (by decide)).mono ?_
  rintro e w4 ⟨rfl, hb⟩
  have HS := Lib.hid (hop (w0 := w3) hb (by repeat (first | exact Below.refl _ _ | refine Below.alloc ?_ (by first | exact Nat.le_refl _ | (simp; done) | (simp; omega)) _)))
  have H4 := Lib.hid (H3.out.trans (HS.out.mono H3.out.size))
  have A3 := Lib.hid (NatsAt.below A3.out HS.out)
  clear hb HS
  go_wp2_with fail
  refine (ch_eq (bytes_lit _ [97] #[.int .u8 97] rfl (by decide) (by decide)) HsA.out).mono ?_
  rintro e w5 ⟨zs4, rfl, hat, hb⟩
  have HS := Lib.hid (hop (w0 := w4) hb (by repeat (first | exact Below.refl _ _ | refine Below.alloc ?_ (by first | exact Nat.le_refl _ | (simp; done) | (simp; omega)) _)))
  have H5 := Lib.hid (H4.out.trans (HS.out.mono H4.out.size))
  obtain ⟨k4, s4, n4, a4, len4, cap4, rfl⟩ := K.at_lit hat
  have A4 := Lib.hid hat
  clear hat hb HS
  go_wp2_with fail
  refine (star_walk (Cr.at_below (by repeat (first | exact Below.refl _ _ | refine Below.alloc ?_ (by first | exact Nat.le_refl _ | (simp; done) | (simp; omega)) _)) (Nat.le_refl _) _ _ A4.out)).mono ?_
  rintro e w6 ⟨zs5, rfl, hat, hb⟩
  have HS := Lib.hid (hop (w0 := w5) hb (by repeat (first | exact Below.refl _ _ | refine Below.alloc ?_ (by first | exact Nat.le_refl _ | (simp; done) | (simp; omega)) _)))
  have H6 := Lib.hid (H5.out.trans (HS.out.mono H5.out.size))
  obtain ⟨k5, s5, n5, a5, len5, cap5, rfl⟩ := K.at_lit hat
  have A5 := Lib.hid hat
  clear hat hb HS
  go_wp2_with fail
  refine (null_eq (Cr.at_below (by repeat (first | exact Below.refl _ _ | refine Below.alloc ?_ (by first | exact Nat.le_refl _ | (simp; done) | (simp; omega)) _)) (Nat.le_refl _) _ _ A5.out) F2.out).mono ?_
  rintro e w7 ⟨rfl, hb⟩
  have HS := Lib.hid (hop (w0 := w6) hb (by repeat (first | exact Below.refl _ _ | refine Below.alloc ?_ (by first | exact Nat.le_refl _ | (simp; done) | (simp; omega)) _)))
  have H7 := Lib.hid (H6.out.trans (HS.out.mono H6.out.size))
  have A5 := Lib.hid (Cr.at_below HS.out (Nat.le_refl _) _ _ A5.out)
  clear hb HS
  go_wp2_with fail
  refine (ch_eq (bytes_lit _ [97] #[.int .u8 97] rfl (by decide) (by decide)) HsA.out).mono ?_
  rintro e w8 ⟨zs6, rfl, hat, hb⟩
  have HS := Lib.hid (hop (w0 := w7) hb (by repeat (first | exact Below.refl _ _ | refine Below.alloc ?_ (by first | exact Nat.le_refl _ | (simp; done) | (simp; omega)) _)))
  have H8 := Lib.hid (H7.out.trans (HS.out.mono H7.out.size))
  obtain ⟨k6, s6, n6, a6, len6, cap6, rfl⟩ := K.at_lit hat
  have A6 := Lib.hid hat
  clear hat hb HS
  go_wp2_with (first
    | (refine K.wpList_conv_want rfl _ rfl _ 1 1 #[.int .u8 97] 5 rfl (World.alloc_heap_new _ _) ?_
       intro wc ho hc
       have BC := Lib.hid (bytesAt_cells (bytes_lit _ [97] #[.int .u8 97] rfl (by decide) (by decide)) hc (Nat.le_of_eq ho.size.symm))
       have HO8 := Lib.hid ho
       clear ho hc
       try simp only [Act.put, List.setIfInBounds_toArray, List.set_cons_zero, List.set_cons_succ])
    | fail)
  refine (says_eq (Cr.at_below (by repeat (first | exact Below.refl _ _ | refine HO8.out.below ?_ (by first | exact Nat.le_refl _ | (simp; done) | (simp; omega)) | refine Below.alloc ?_ (by first | exact Nat.le_refl _ | (simp; done) | (simp; omega)) _)) (Nat.le_refl _) _ _ A6.out) BC.out F3.out).mono ?_
  rintro e w9 ⟨rfl, hb⟩
  have HS := Lib.hid (hop (w0 := w8) hb (by repeat (first | exact Below.refl _ _ | refine HO8.out.below ?_ (by first | exact Nat.le_refl _ | (simp; done) | (simp; omega)) | refine Below.alloc ?_ (by first | exact Nat.le_refl _ | (simp; done) | (simp; omega)) _)))
  have H9 := Lib.hid (H8.out.trans (HS.out.mono H8.out.size))
  have A6 := Lib.hid (Cr.at_below HS.out (Nat.le_refl _) _ _ A6.out)
  clear hb HS
  go_wp2_with fail
  go_ret
  exact ⟨rfl, H9.out⟩
end K
end Go.Proofs.Ytobhjfhmhhahoaa
