/- The walk of token's next: the token that a text begins with. -/
import Derived.Test.YtjfenbjamlflcaaTokenExpr
import Derived.Test.YtjfenbjamlflcaaTokenEsc
namespace Go.Proofs.Ytjfenbjamlflcaa
set_option maxRecDepth 100000
open Go.RowKit
theorem preB_three (x : ByteArray) (q : List Nat) (hx : nats x = q) : preB x ⟨#[40, 63, 58]⟩ = decide (q.head? = some 40 ∧ q.tail.head? = some 63 ∧ q.tail.tail.head? = some 58) := by
  subst hx
  unfold preB Lib.hasPrefix nats
  rw [show (⟨#[40, 63, 58]⟩ : ByteArray).data.toList = [40, 63, 58] from rfl]
  match x.data.toList with
  | [] => rfl
  | [a] => simp [List.isPrefixOf]
  | [a, b] => simp [List.isPrefixOf]
  | a :: b :: c :: l =>
    simp only [List.isPrefixOf, List.map_cons, List.head?_cons, List.tail_cons, Option.some.injEq, Bool.and_true]
    rw [Bool.eq_iff_iff]
    simp only [Bool.and_eq_true, beq_iff_eq, decide_eq_true_eq]
    constructor
    · rintro ⟨h1, h2, h3⟩; rw [← h1, ← h2, ← h3]; exact ⟨rfl, rfl, rfl⟩
    · rintro ⟨h1, h2, h3⟩; exact ⟨(UInt8.toNat_inj.mp h1).symm, (UInt8.toNat_inj.mp h2).symm, (UInt8.toNat_inj.mp h3).symm⟩
theorem nextV_form (n : Nat) (t : TR) : ∃ k w0 w1 w2 w3 lo hi d e : Int, nextV n t = .tuple #[.agg #[.int .i64 k, .int .u64 w0, .int .u64 w1, .int .u64 w2, .int .u64 w3, .int .i64 lo, .int .i64 hi, .int .i64 0], .int .i64 d, .int .i64 e] := by
  cases t with
  | bad e => exact ⟨0, 0, 0, 0, 0, 0, 0, 0, e, rfl⟩
  | ok t rest => exact ⟨_, _, _, _, _, _, _, _, _, rfl⟩
theorem byte_other (cls : List Nat → Option (BitVec 256)) (x : Nat) (r : List Nat) (h : x ∉ [42, 43, 63, 123, 40, 41, 124, 94, 36, 46, 92, 91]) : tokOf cls x r = .ok ⟨1, oneByte x, 0, 0⟩ r := by
  have hn : ∀ y ∈ [42, 43, 63, 123, 40, 41, 124, 94, 36, 46, 92, 91], x ≠ y := fun y hy e => h (by rw [e]; exact hy)
  unfold tokOf
  rw [if_neg (hn 42 (by decide)), if_neg (hn 43 (by decide)), if_neg (hn 63 (by decide)), if_neg (hn 123 (by decide)), if_neg (hn 40 (by decide)), if_neg (hn 41 (by decide)), if_neg (hn 124 (by decide)), if_neg (hn 94 (by decide)), if_neg (hn 36 (by decide)), if_neg (hn 46 (by decide)), if_neg (hn 92 (by decide)), if_neg (hn 91 (by decide))]

set_option maxHeartbeats 2000000 in
theorem next_42 (s : ByteArray) (r : List Nat) (hq : nats s = 42 :: r) (_hs : s.size < 4294967281) (w : World) :
    Calls Try.prog 52 #[.string s] w fun e w' => e = .returned (nextV s.size (tokOf cls 42 r)) ∧ Below w.heap.size w w' := by
  have hl := nats_length s
  rw [hq, lenCons] at hl
  obtain ⟨g1, g2, g3, _⟩ := nats_cons (s := s) (k := 0) (x := 42) (r := r) hq
  rw [show tokOf cls 42 r = .ok ⟨6, 0, 0, -1⟩ r from rfl, nextV_ok0, show s.size - r.length = 1 from by omega]
  clear hq hl
  go_enter Try.func52, Try.ntmps52
  go_wp2_with (go_at_call 67; refine (repetition_any _ _ _).mono ?_; rintro e w1 ⟨rfl, rfl⟩)
  refine bodyPost_ret (v := .tuple #[tokV0 6 (0) (-1), .int .i64 (1 : Nat), .int .i64 0]) (by simp [results, Try.results52, go_sem]) rfl ⟨rfl, ?_⟩
  repeat (first | exact Below.refl _ _ | refine Below.drew ?_ | refine Below.alloc ?_ (by simp; try omega) _ | refine Below.setCell ?_ (by simp; try omega) _)
set_option maxHeartbeats 2000000 in
theorem next_43 (s : ByteArray) (r : List Nat) (hq : nats s = 43 :: r) (_hs : s.size < 4294967281) (w : World) :
    Calls Try.prog 52 #[.string s] w fun e w' => e = .returned (nextV s.size (tokOf cls 43 r)) ∧ Below w.heap.size w w' := by
  have hl := nats_length s
  rw [hq, lenCons] at hl
  obtain ⟨g1, g2, g3, _⟩ := nats_cons (s := s) (k := 0) (x := 43) (r := r) hq
  rw [show tokOf cls 43 r = .ok ⟨6, 0, 1, -1⟩ r from rfl, nextV_ok0, show s.size - r.length = 1 from by omega]
  clear hq hl
  go_enter Try.func52, Try.ntmps52
  go_wp2_with (go_at_call 67; refine (repetition_any _ _ _).mono ?_; rintro e w1 ⟨rfl, rfl⟩)
  refine bodyPost_ret (v := .tuple #[tokV0 6 (1) (-1), .int .i64 (1 : Nat), .int .i64 0]) (by simp [results, Try.results52, go_sem]) rfl ⟨rfl, ?_⟩
  repeat (first | exact Below.refl _ _ | refine Below.drew ?_ | refine Below.alloc ?_ (by simp; try omega) _ | refine Below.setCell ?_ (by simp; try omega) _)
set_option maxHeartbeats 2000000 in
theorem next_63 (s : ByteArray) (r : List Nat) (hq : nats s = 63 :: r) (_hs : s.size < 4294967281) (w : World) :
    Calls Try.prog 52 #[.string s] w fun e w' => e = .returned (nextV s.size (tokOf cls 63 r)) ∧ Below w.heap.size w w' := by
  have hl := nats_length s
  rw [hq, lenCons] at hl
  obtain ⟨g1, g2, g3, _⟩ := nats_cons (s := s) (k := 0) (x := 63) (r := r) hq
  rw [show tokOf cls 63 r = .ok ⟨6, 0, 0, 1⟩ r from rfl, nextV_ok0, show s.size - r.length = 1 from by omega]
  clear hq hl
  go_enter Try.func52, Try.ntmps52
  go_wp2_with (go_at_call 67; refine (repetition_any _ _ _).mono ?_; rintro e w1 ⟨rfl, rfl⟩)
  refine bodyPost_ret (v := .tuple #[tokV0 6 (0) (1), .int .i64 (1 : Nat), .int .i64 0]) (by simp [results, Try.results52, go_sem]) rfl ⟨rfl, ?_⟩
  repeat (first | exact Below.refl _ _ | refine Below.drew ?_ | refine Below.alloc ?_ (by simp; try omega) _ | refine Below.setCell ?_ (by simp; try omega) _)
set_option maxHeartbeats 2000000 in
theorem next_41 (s : ByteArray) (r : List Nat) (hq : nats s = 41 :: r) (_hs : s.size < 4294967281) (w : World) :
    Calls Try.prog 52 #[.string s] w fun e w' => e = .returned (nextV s.size (tokOf cls 41 r)) ∧ Below w.heap.size w w' := by
  have hl := nats_length s
  rw [hq, lenCons] at hl
  obtain ⟨g1, g2, g3, _⟩ := nats_cons (s := s) (k := 0) (x := 41) (r := r) hq
  rw [show tokOf cls 41 r = .ok ⟨4, 0, 0, 0⟩ r from rfl, nextV_ok0, show s.size - r.length = 1 from by omega]
  clear hq hl
  go_enter Try.func52, Try.ntmps52
  go_wp2_with fail
  refine bodyPost_ret (v := .tuple #[tokV0 4 0 0, .int .i64 (1 : Nat), .int .i64 0]) (by simp [results, Try.results52, go_sem]) rfl ⟨rfl, ?_⟩
  repeat (first | exact Below.refl _ _ | refine Below.drew ?_ | refine Below.alloc ?_ (by simp; try omega) _ | refine Below.setCell ?_ (by simp; try omega) _)
set_option maxHeartbeats 2000000 in
theorem next_124 (s : ByteArray) (r : List Nat) (hq : nats s = 124 :: r) (_hs : s.size < 4294967281) (w : World) :
    Calls Try.prog 52 #[.string s] w fun e w' => e = .returned (nextV s.size (tokOf cls 124 r)) ∧ Below w.heap.size w w' := by
  have hl := nats_length s
  rw [hq, lenCons] at hl
  obtain ⟨g1, g2, g3, _⟩ := nats_cons (s := s) (k := 0) (x := 124) (r := r) hq
  rw [show tokOf cls 124 r = .ok ⟨5, 0, 0, 0⟩ r from rfl, nextV_ok0, show s.size - r.length = 1 from by omega]
  clear hq hl
  go_enter Try.func52, Try.ntmps52
  go_wp2_with fail
  refine bodyPost_ret (v := .tuple #[tokV0 5 0 0, .int .i64 (1 : Nat), .int .i64 0]) (by simp [results, Try.results52, go_sem]) rfl ⟨rfl, ?_⟩
  repeat (first | exact Below.refl _ _ | refine Below.drew ?_ | refine Below.alloc ?_ (by simp; try omega) _ | refine Below.setCell ?_ (by simp; try omega) _)
set_option maxHeartbeats 2000000 in
theorem next_94 (s : ByteArray) (r : List Nat) (hq : nats s = 94 :: r) (_hs : s.size < 4294967281) (w : World) :
    Calls Try.prog 52 #[.string s] w fun e w' => e = .returned (nextV s.size (tokOf cls 94 r)) ∧ Below w.heap.size w w' := by
  have hl := nats_length s
  rw [hq, lenCons] at hl
  obtain ⟨g1, g2, g3, _⟩ := nats_cons (s := s) (k := 0) (x := 94) (r := r) hq
  rw [show tokOf cls 94 r = .ok ⟨7, 0, 0, 0⟩ r from rfl, nextV_ok0, show s.size - r.length = 1 from by omega]
  clear hq hl
  go_enter Try.func52, Try.ntmps52
  go_wp2_with fail
  refine bodyPost_ret (v := .tuple #[tokV0 7 0 0, .int .i64 (1 : Nat), .int .i64 0]) (by simp [results, Try.results52, go_sem]) rfl ⟨rfl, ?_⟩
  repeat (first | exact Below.refl _ _ | refine Below.drew ?_ | refine Below.alloc ?_ (by simp; try omega) _ | refine Below.setCell ?_ (by simp; try omega) _)
set_option maxHeartbeats 2000000 in
theorem next_36 (s : ByteArray) (r : List Nat) (hq : nats s = 36 :: r) (_hs : s.size < 4294967281) (w : World) :
    Calls Try.prog 52 #[.string s] w fun e w' => e = .returned (nextV s.size (tokOf cls 36 r)) ∧ Below w.heap.size w w' := by
  have hl := nats_length s
  rw [hq, lenCons] at hl
  obtain ⟨g1, g2, g3, _⟩ := nats_cons (s := s) (k := 0) (x := 36) (r := r) hq
  rw [show tokOf cls 36 r = .ok ⟨8, 0, 0, 0⟩ r from rfl, nextV_ok0, show s.size - r.length = 1 from by omega]
  clear hq hl
  go_enter Try.func52, Try.ntmps52
  go_wp2_with fail
  refine bodyPost_ret (v := .tuple #[tokV0 8 0 0, .int .i64 (1 : Nat), .int .i64 0]) (by simp [results, Try.results52, go_sem]) rfl ⟨rfl, ?_⟩
  repeat (first | exact Below.refl _ _ | refine Below.drew ?_ | refine Below.alloc ?_ (by simp; try omega) _ | refine Below.setCell ?_ (by simp; try omega) _)
set_option maxHeartbeats 2000000 in
theorem next_40 (s : ByteArray) (r : List Nat) (hq : nats s = 40 :: r) (_hs : s.size < 4294967281) (w : World) :
    Calls Try.prog 52 #[.string s] w fun e w' => e = .returned (nextV s.size (tokOf cls 40 r)) ∧ Below w.heap.size w w' := by
  have hl := nats_length s
  rw [hq, lenCons] at hl
  obtain ⟨g1, g2, g3, _⟩ := nats_cons (s := s) (k := 0) (x := 40) (r := r) hq
  have hp := preB_three s _ hq
  by_cases h : r.head? = some 63 ∧ r.tail.head? = some 58
  · obtain ⟨h1, h2⟩ := h
    obtain ⟨r1, rfl⟩ := head_cons h1
    obtain ⟨r2, rfl⟩ := head_cons h2
    rw [decide_eq_true ⟨rfl, rfl, rfl⟩] at hp
    rw [show tokOf cls 40 (63 :: 58 :: r2) = .ok ⟨3, 0, 0, 0⟩ r2 from rfl, nextV_ok0, show s.size - r2.length = 3 from by simp only [lenCons] at hl; omega]
    clear hq hl h1 h2
    go_enter Try.func52, Try.ntmps52
    go_wp2_with (go_at_call 69; refine (pre_b _ _ _).mono ?_; rintro e w1 ⟨rfl, rfl⟩)
    refine bodyPost_ret (v := .tuple #[tokV0 3 0 0, .int .i64 (3 : Nat), .int .i64 0]) (by simp [results, Try.results52, go_sem]) rfl ⟨rfl, ?_⟩
    repeat (first | exact Below.refl _ _ | refine Below.drew ?_ | refine Below.alloc ?_ (by simp; try omega) _ | refine Below.setCell ?_ (by simp; try omega) _)
  · rw [decide_eq_false (fun h' => h h'.2)] at hp
    have ht : tokOf cls 40 r = .ok ⟨2, 0, 0, 0⟩ r := by
      show (match r with | 63 :: 58 :: r2 => TR.ok ⟨3, 0, 0, 0⟩ r2 | _ => TR.ok ⟨2, 0, 0, 0⟩ r) = _
      split
      · exact absurd ⟨rfl, rfl⟩ h
      · rfl
    rw [ht, nextV_ok0, show s.size - r.length = 1 from by omega]
    clear hq hl h ht
    go_enter Try.func52, Try.ntmps52
    go_wp2_with (go_at_call 69; refine (pre_b _ _ _).mono ?_; rintro e w1 ⟨rfl, rfl⟩)
    refine bodyPost_ret (v := .tuple #[tokV0 2 0 0, .int .i64 (1 : Nat), .int .i64 0]) (by simp [results, Try.results52, go_sem]) rfl ⟨rfl, ?_⟩
    repeat (first | exact Below.refl _ _ | refine Below.drew ?_ | refine Below.alloc ?_ (by simp; try omega) _ | refine Below.setCell ?_ (by simp; try omega) _)
set_option maxHeartbeats 2000000 in
theorem next_46 (s : ByteArray) (r : List Nat) (hq : nats s = 46 :: r) (_hs : s.size < 4294967281) (w : World) :
    Calls Try.prog 52 #[.string s] w fun e w' => e = .returned (nextV s.size (tokOf cls 46 r)) ∧ Below w.heap.size w w' := by
  have hl := nats_length s
  rw [hq, lenCons] at hl
  obtain ⟨g1, g2, g3, _⟩ := nats_cons (s := s) (k := 0) (x := 46) (r := r) hq
  rw [show tokOf cls 46 r = .ok ⟨1, BitVec.allOnes 256, 0, 0⟩ r from rfl, nextV_ok1 _ _ _ 1 (by omega)]
  have hall := all_any
  generalize BitVec.allOnes 256 = S at *
  clear hq hl
  go_enter Try.func52, Try.ntmps52
  go_wp2_with fail
  refine (hall _).mono ?_
  rintro e w1 ⟨rfl, hb1⟩
  have c1 : ∀ o, w1.cell? ⟨w.heap.size, o, none⟩ = _ := fun o => hb1.cell (p := ⟨w.heap.size, o, none⟩) (by simp; try omega)
  have f1 : ∀ o, w1.frozen? ⟨w.heap.size, o, none⟩ = _ := fun o => hb1.frozen (p := ⟨w.heap.size, o, none⟩) (by simp; try omega)
  have hz1 : w.heap.size < w1.heap.size := by have := hb1.size; simp at this; omega
  have B1 : Below w.heap.size w w1 := ((Below.refl _ _).alloc (Nat.le_refl _) _).trans (hb1.mono (by simp))
  clear hb1
  go_wp2_with fail
  refine bodyPost_ret (v := .tuple #[tokV1 S, .int .i64 (1 : Nat), .int .i64 0]) (by simp [results, Try.results52, go_sem, c1]) rfl ⟨rfl, ?_⟩
  iterate 8 (refine Below.setCell ?_ (by simp) _)
  exact B1
set_option maxHeartbeats 2000000 in
theorem next_123 (s : ByteArray) (r : List Nat) (hq : nats s = 123 :: r) (hs : s.size < 4294967281) (w : World) :
    Calls Try.prog 52 #[.string s] w fun e w' => e = .returned (nextV s.size (tokOf cls 123 r)) ∧ Below w.heap.size w w' := by
  have hl := nats_length s
  rw [hq, lenCons] at hl
  obtain ⟨g1, g2, g3, _⟩ := nats_cons (s := s) (k := 0) (x := 123) (r := r) hq
  rw [show tokOf cls 123 r = often r from rfl]
  have hn := braces_q s r hq (by omega)
  obtain ⟨k, v0, v1, v2, v3, lo, hi, d, e, hV⟩ := nextV_form s.size (often r)
  rw [hV] at hn ⊢
  clear hq hl hV
  go_enter Try.func52, Try.ntmps52
  go_wp2_with fail
  refine (hn _).mono ?_
  rintro e w1 ⟨rfl, hb1⟩
  have c1 : ∀ o, w1.cell? ⟨w.heap.size, o, none⟩ = _ := fun o => hb1.cell (p := ⟨w.heap.size, o, none⟩) (by simp; try omega)
  have f1 : ∀ o, w1.frozen? ⟨w.heap.size, o, none⟩ = _ := fun o => hb1.frozen (p := ⟨w.heap.size, o, none⟩) (by simp; try omega)
  have hz1 : w.heap.size < w1.heap.size := by have := hb1.size; simp at this; omega
  have B1 : Below w.heap.size w w1 := ((Below.refl _ _).alloc (Nat.le_refl _) _).trans (hb1.mono (by simp))
  clear hb1
  go_wp2_with fail
  refine bodyPost_ret (v := .tuple #[.agg #[.int .i64 k, .int .u64 v0, .int .u64 v1, .int .u64 v2, .int .u64 v3, .int .i64 lo, .int .i64 hi, .int .i64 0], .int .i64 d, .int .i64 e]) (by simp [results, Try.results52, go_sem, c1]) rfl ⟨rfl, ?_⟩
  iterate 8 (refine Below.setCell ?_ (by simp) _)
  exact B1
set_option maxHeartbeats 2000000 in
theorem next_92 (s : ByteArray) (r : List Nat) (hq : nats s = 92 :: r) (hs : s.size < 4294967281) (w : World) :
    Calls Try.prog 52 #[.string s] w fun e w' => e = .returned (nextV s.size (tokOf cls 92 r)) ∧ Below w.heap.size w w' := by
  have hl := nats_length s
  rw [hq, lenCons] at hl
  obtain ⟨g1, g2, g3, _⟩ := nats_cons (s := s) (k := 0) (x := 92) (r := r) hq
  rw [show tokOf cls 92 r = escape r from rfl]
  have hn := escape_q s r hq (by omega)
  obtain ⟨k, v0, v1, v2, v3, lo, hi, d, e, hV⟩ := nextV_form s.size (escape r)
  rw [hV] at hn ⊢
  clear hq hl hV
  go_enter Try.func52, Try.ntmps52
  go_wp2_with fail
  refine (hn _).mono ?_
  rintro e w1 ⟨rfl, hb1⟩
  have c1 : ∀ o, w1.cell? ⟨w.heap.size, o, none⟩ = _ := fun o => hb1.cell (p := ⟨w.heap.size, o, none⟩) (by simp; try omega)
  have f1 : ∀ o, w1.frozen? ⟨w.heap.size, o, none⟩ = _ := fun o => hb1.frozen (p := ⟨w.heap.size, o, none⟩) (by simp; try omega)
  have hz1 : w.heap.size < w1.heap.size := by have := hb1.size; simp at this; omega
  have B1 : Below w.heap.size w w1 := ((Below.refl _ _).alloc (Nat.le_refl _) _).trans (hb1.mono (by simp))
  clear hb1
  go_wp2_with fail
  refine bodyPost_ret (v := .tuple #[.agg #[.int .i64 k, .int .u64 v0, .int .u64 v1, .int .u64 v2, .int .u64 v3, .int .i64 lo, .int .i64 hi, .int .i64 0], .int .i64 d, .int .i64 e]) (by simp [results, Try.results52, go_sem, c1]) rfl ⟨rfl, ?_⟩
  iterate 8 (refine Below.setCell ?_ (by simp) _)
  exact B1
set_option maxHeartbeats 2000000 in
theorem next_91 (s : ByteArray) (r : List Nat) (hq : nats s = 91 :: r) (hs : s.size < 4294967281) (w : World) (hm : MaxAt w) :
    Calls Try.prog 52 #[.string s] w fun e w' => e = .returned (nextV s.size (tokOf cls 91 r)) ∧ Below w.heap.size w w' := by
  have hl := nats_length s
  rw [hq, lenCons] at hl
  obtain ⟨g1, g2, g3, _⟩ := nats_cons (s := s) (k := 0) (x := 91) (r := r) hq
  rw [show tokOf cls 91 r = ofBR (bracket cls r) from rfl]
  have hn := expression_q s r hq hs
  obtain ⟨k, v0, v1, v2, v3, lo, hi, d, e, hV⟩ := nextV_form s.size (ofBR (bracket cls r))
  rw [hV] at hn ⊢
  clear hq hl hV
  go_enter Try.func52, Try.ntmps52
  go_wp2_with fail
  refine (hn _ (maxAt_below hm ((Below.refl _ _).alloc (Nat.le_refl _) _))).mono ?_
  rintro e w1 ⟨rfl, hb1⟩
  have c1 : ∀ o, w1.cell? ⟨w.heap.size, o, none⟩ = _ := fun o => hb1.cell (p := ⟨w.heap.size, o, none⟩) (by simp; try omega)
  have f1 : ∀ o, w1.frozen? ⟨w.heap.size, o, none⟩ = _ := fun o => hb1.frozen (p := ⟨w.heap.size, o, none⟩) (by simp; try omega)
  have hz1 : w.heap.size < w1.heap.size := by have := hb1.size; simp at this; omega
  have B1 : Below w.heap.size w w1 := ((Below.refl _ _).alloc (Nat.le_refl _) _).trans (hb1.mono (by simp))
  clear hb1
  go_wp2_with fail
  refine bodyPost_ret (v := .tuple #[.agg #[.int .i64 k, .int .u64 v0, .int .u64 v1, .int .u64 v2, .int .u64 v3, .int .i64 lo, .int .i64 hi, .int .i64 0], .int .i64 d, .int .i64 e]) (by simp [results, Try.results52, go_sem, c1]) rfl ⟨rfl, ?_⟩
  iterate 8 (refine Below.setCell ?_ (by simp) _)
  exact B1
set_option maxHeartbeats 2000000 in
theorem next_other (s : ByteArray) (x : Nat) (r : List Nat) (hq : nats s = x :: r) (_hs : s.size < 4294967281) (hx : x ∉ [42, 43, 63, 123, 40, 41, 124, 94, 36, 46, 92, 91]) (w : World) :
    Calls Try.prog 52 #[.string s] w fun e w' => e = .returned (nextV s.size (tokOf cls x r)) ∧ Below w.heap.size w w' := by
  have hl := nats_length s
  rw [hq, lenCons] at hl
  obtain ⟨g1, g2, g3, _⟩ := nats_cons (s := s) (k := 0) (x := x) (r := r) hq
  rw [byte_other cls x r hx, nextV_ok1 _ _ _ 1 (by omega)]
  have hof := fun g n cap w => of_any g n cap [x] w
  rw [setOf_one] at hof
  have hby := fun g cap w h => hof (some ⟨g, 0, none⟩) 1 cap w h
  have hn : ∀ y ∈ [42, 43, 63, 123, 40, 41, 124, 94, 36, 46, 92, 91], ((x : Int) == ((y : Nat) : Int)) = false := by
    intro y hy
    rw [beq_eq_false_iff_ne]
    intro e
    exact hx (by rw [show x = y from by omega]; exact hy)
  have n42 : ((x : Int) == 42) = false := hn 42 (by decide)
  have n43 : ((x : Int) == 43) = false := hn 43 (by decide)
  have n63 : ((x : Int) == 63) = false := hn 63 (by decide)
  have n123 : ((x : Int) == 123) = false := hn 123 (by decide)
  have n40 : ((x : Int) == 40) = false := hn 40 (by decide)
  have n41 : ((x : Int) == 41) = false := hn 41 (by decide)
  have n124 : ((x : Int) == 124) = false := hn 124 (by decide)
  have n94 : ((x : Int) == 94) = false := hn 94 (by decide)
  have n36 : ((x : Int) == 36) = false := hn 36 (by decide)
  have n46 : ((x : Int) == 46) = false := hn 46 (by decide)
  have n92 : ((x : Int) == 92) = false := hn 92 (by decide)
  have n91 : ((x : Int) == 91) = false := hn 91 (by decide)
  generalize oneByte x = S at *
  clear hq hl hx hn hof
  go_enter Try.func52, Try.ntmps52
  go_wp2_with fail
  refine (hby _ _ _ (bytesAt_new [_] (by intro z hz; rw [List.mem_singleton] at hz; omega) (by simp [maxLen]) rfl (by simp) rfl (Nat.le_refl 1))).mono ?_
  rintro e w1 ⟨rfl, hb1⟩
  have c1 : ∀ o, w1.cell? ⟨w.heap.size, o, none⟩ = _ := fun o => hb1.cell (p := ⟨w.heap.size, o, none⟩) (by simp; try omega)
  have f1 : ∀ o, w1.frozen? ⟨w.heap.size, o, none⟩ = _ := fun o => hb1.frozen (p := ⟨w.heap.size, o, none⟩) (by simp; try omega)
  have hz1 : w.heap.size < w1.heap.size := by have := hb1.size; simp at this; omega
  have B1 : Below w.heap.size w w1 := (((Below.refl _ _).alloc (Nat.le_refl _) _).alloc (by simp) _).trans (hb1.mono (by simp; omega))
  clear hb1
  go_wp2_with fail
  refine bodyPost_ret (v := .tuple #[tokV1 S, .int .i64 (1 : Nat), .int .i64 0]) (by simp [results, Try.results52, go_sem, c1]) rfl ⟨rfl, ?_⟩
  iterate 8 (refine Below.setCell ?_ (by simp) _)
  exact B1
theorem next_q (s : ByteArray) (x : Nat) (r : List Nat) (hq : nats s = x :: r) (hs : s.size < 4294967281) (w : World) (hm : MaxAt w) :
    Calls Try.prog 52 #[.string s] w fun e w' => e = .returned (nextV s.size (tokOf cls x r)) ∧ Below w.heap.size w w' := by
  by_cases hx : x ∈ [42, 43, 63, 123, 40, 41, 124, 94, 36, 46, 92, 91]
  · simp only [List.mem_cons, List.not_mem_nil, or_false] at hx
    rcases hx with rfl | rfl | rfl | rfl | rfl | rfl | rfl | rfl | rfl | rfl | rfl | rfl
    · exact next_42 s r hq hs w
    · exact next_43 s r hq hs w
    · exact next_63 s r hq hs w
    · exact next_123 s r hq hs w
    · exact next_40 s r hq hs w
    · exact next_41 s r hq hs w
    · exact next_124 s r hq hs w
    · exact next_94 s r hq hs w
    · exact next_36 s r hq hs w
    · exact next_46 s r hq hs w
    · exact next_92 s r hq hs w
    · exact next_91 s r hq hs w hm
  · exact next_other s x r hq hs hx w
end Go.Proofs.Ytjfenbjamlflcaa
