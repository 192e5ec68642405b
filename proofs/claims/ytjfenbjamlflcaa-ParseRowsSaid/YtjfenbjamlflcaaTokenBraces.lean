/- The walk of token's braces. -/
import Derived.Test.YtjfenbjamlflcaaTokenNum
namespace Go.Proofs.Ytjfenbjamlflcaa
set_option maxRecDepth 100000
open Go.RowKit
theorem often_bad {q : List Nat} (h : q.takeWhile isDig = []) : often q = .bad 2 := by
  unfold often; simp only; rw [if_pos h]
theorem often_large {q : List Nat} (h : q.takeWhile isDig ≠ []) (h2 : 255 < numOf (q.takeWhile isDig)) : often q = .bad 4 := by
  unfold often; simp only; rw [if_neg h, if_pos h2]
/-- what '{' begins, behind its first number -/
def oftenTail (m : Nat) (r : List Nat) : TR :=
  match r with
  | 125 :: r => .ok ⟨6, 0, m, m⟩ r
  | 44 :: 125 :: r => .ok ⟨6, 0, m, -1⟩ r
  | 44 :: r =>
    let d2 := r.takeWhile isDig
    if d2 = [] then .bad 2
    else if 255 < numOf d2 then .bad 4
    else match r.dropWhile isDig with
      | 125 :: r2 => if numOf d2 < m then .bad 2 else .ok ⟨6, 0, m, numOf d2⟩ r2
      | _ => .bad 2
  | _ => .bad 2
theorem often_tail {q : List Nat} (h : q.takeWhile isDig ≠ []) (h2 : ¬ 255 < numOf (q.takeWhile isDig)) : often q = oftenTail (numOf (q.takeWhile isDig)) (q.dropWhile isDig) := by
  unfold often oftenTail; simp only; rw [if_neg h, if_neg h2]; rfl
theorem tail_close (m : Nat) (r : List Nat) : oftenTail m (125 :: r) = .ok ⟨6, 0, m, m⟩ r := rfl
theorem tail_open (m : Nat) (r : List Nat) : oftenTail m (44 :: 125 :: r) = .ok ⟨6, 0, m, -1⟩ r := rfl
theorem tail_none (m : Nat) (r : List Nat) (h1 : r.head? ≠ some 125) (h2 : r.head? ≠ some 44) : oftenTail m r = .bad 2 := by
  unfold oftenTail
  split
  · exact absurd rfl h1
  · exact absurd rfl h2
  · exact absurd rfl h2
  · rfl
/-- what stands behind the second number -/
def closeAt (m n : Nat) (r : List Nat) : TR :=
  match r with
  | 125 :: r2 => if n < m then .bad 2 else .ok ⟨6, 0, m, n⟩ r2
  | _ => .bad 2
theorem close_one (m n : Nat) (r : List Nat) : closeAt m n (125 :: r) = if n < m then .bad 2 else .ok ⟨6, 0, m, n⟩ r := rfl
theorem close_none (m n : Nat) (r : List Nat) (h : r.head? ≠ some 125) : closeAt m n r = .bad 2 := by
  unfold closeAt
  split
  · exact absurd rfl h
  · rfl
theorem tail_two (m : Nat) (r : List Nat) (h : r.head? ≠ some 125) : oftenTail m (44 :: r) = if r.takeWhile isDig = [] then .bad 2
    else if 255 < numOf (r.takeWhile isDig) then .bad 4
    else closeAt m (numOf (r.takeWhile isDig)) (r.dropWhile isDig) := by
  cases r with
  | nil => rfl
  | cons y r2 =>
    unfold oftenTail
    split
    · rename_i he; injection he with he _; omega
    · rename_i he; injection he with _ he; injection he with he _; exact absurd (by rw [he]; rfl) h
    · rename_i he; injection he with _ he; rw [he]; rfl
    · rename_i h4; exact absurd rfl (h4 _)
theorem take_drop_len (p : Nat → Bool) : ∀ q : List Nat, q.drop (q.takeWhile p).length = q.dropWhile p
  | [] => rfl
  | x :: q => by
    by_cases h : p x = true
    · rw [List.takeWhile_cons_of_pos h, List.dropWhile_cons_of_pos h]; exact take_drop_len p q
    · rw [List.takeWhile_cons_of_neg h, List.dropWhile_cons_of_neg h]; rfl
theorem take_drop_size (q : List Nat) (p : Nat → Bool) : (q.takeWhile p).length + (q.dropWhile p).length = q.length := by
  rw [← List.length_append, List.takeWhile_append_dropWhile]
theorem head_cons {r : List Nat} {x : Nat} (h : r.head? = some x) : ∃ r', r = x :: r' := by
  cases r with
  | nil => cases h
  | cons y r => injection h with h; exact ⟨r, by rw [h]⟩
set_option maxHeartbeats 2000000 in
theorem braces_q (s : ByteArray) (q : List Nat) (hq : nats s = 123 :: q) (hs : s.size < 4294967296) (w : World) :
    Calls Try.prog 68 #[.string s] w fun e w' => e = .returned (nextV s.size (often q)) ∧ Below w.heap.size w w' := by
  have hq1 : (nats s).drop 1 = q := by rw [hq]; rfl
  have hl := nats_length s
  rw [hq, List.length_cons] at hl
  have Hq := Lib.hid hq1
  clear hq hq1
  have hn := numB_q Hq.out 1 rfl
  rcases number_ways q with ⟨h0, h1⟩ | ⟨h0, h1, h2⟩ | ⟨h0, h1, h2⟩
  · rw [often_bad h0]
    rw [h1, numV_bad _ _ (by decide)] at hn
    clear h0 h1 hl
    unfold nextV
    go_enter Try.func68, Try.ntmps68
    go_wp2_with (first
      | (go_at_call 80; refine (number_b s _ (by omega) hs _).mono ?_; rintro e w1 ⟨rfl, rfl⟩)
      | (go_at_call 81; refine (has_b s _ _ (by omega) (by omega) _).mono ?_; rintro e w1 ⟨rfl, rfl⟩)
      | (go_at_call 67; refine (repetition_any _ _ _).mono ?_; rintro e w1 ⟨rfl, rfl⟩))
    refine bodyPost_ret (v := .tuple #[tokV0 0 0 0, .int .i64 (0), .int .i64 2]) (by simp [results, Try.results68, go_sem]) rfl ⟨rfl, ?_⟩
    repeat (first | exact Below.refl _ _ | refine Below.drew ?_ | refine Below.alloc ?_ (by simp; try omega) _ | refine Below.setCell ?_ (by simp; try omega) _)
  · rw [often_large h0 h1]
    rw [h2, numV_bad _ _ (by decide)] at hn
    clear h0 h1 h2 hl
    unfold nextV
    go_enter Try.func68, Try.ntmps68
    go_wp2_with (first
      | (go_at_call 80; refine (number_b s _ (by omega) hs _).mono ?_; rintro e w1 ⟨rfl, rfl⟩)
      | (go_at_call 81; refine (has_b s _ _ (by omega) (by omega) _).mono ?_; rintro e w1 ⟨rfl, rfl⟩)
      | (go_at_call 67; refine (repetition_any _ _ _).mono ?_; rintro e w1 ⟨rfl, rfl⟩))
    refine bodyPost_ret (v := .tuple #[tokV0 0 0 0, .int .i64 (0), .int .i64 4]) (by simp [results, Try.results68, go_sem]) rfl ⟨rfl, ?_⟩
    repeat (first | exact Below.refl _ _ | refine Below.drew ?_ | refine Below.alloc ?_ (by simp; try omega) _ | refine Below.setCell ?_ (by simp; try omega) _)
  · rw [often_tail h0 h1]
    rw [h2, numV_ok] at hn
    obtain ⟨m, hm⟩ : ∃ m, m = numOf (q.takeWhile isDig) := ⟨_, rfl⟩
    obtain ⟨k, hk⟩ : ∃ k, k = 1 + (q.takeWhile isDig).length := ⟨_, rfl⟩
    obtain ⟨r, hr⟩ : ∃ r, r = q.dropWhile isDig := ⟨_, rfl⟩
    have hkr : (nats s).drop k = r := by rw [hk, ← List.drop_drop, Hq.out, take_drop_len, hr]
    have hkl : k + r.length = s.size := by rw [hk, hr]; have := take_drop_size q isDig; omega
    rw [← hm, ← hk] at hn
    rw [← hm, ← hr]
    clear h0 h1 h2 hm hk hr hl
    have e1 := hasB_q hkr k rfl 125 125 rfl
    have e2 := hasB_q hkr k rfl 44 44 rfl
    by_cases c1 : r.head? = some 125
    · obtain ⟨r', rfl⟩ := head_cons c1
      rw [decide_eq_true c1] at e1
      rw [tail_close, nextV_ok0, show s.size - r'.length = k + 1 from by simp at hkl; omega]
      have hk2 : k < 4294967296 := by simp at hkl; omega
      clear e2 c1 hkl hkr
      go_enter Try.func68, Try.ntmps68
      go_wp2_with (first
        | (go_at_call 80; refine (number_b s _ (by omega) hs _).mono ?_; rintro e w1 ⟨rfl, rfl⟩)
        | (go_at_call 81; refine (has_b s _ _ (by omega) (by omega) _).mono ?_; rintro e w1 ⟨rfl, rfl⟩)
        | (go_at_call 67; refine (repetition_any _ _ _).mono ?_; rintro e w1 ⟨rfl, rfl⟩))
      refine bodyPost_ret (v := .tuple #[tokV0 6 m m, .int .i64 ((k + 1 : Nat)), .int .i64 0]) (by simp [results, Try.results68, go_sem]) rfl ⟨rfl, ?_⟩
      repeat (first | exact Below.refl _ _ | refine Below.drew ?_ | refine Below.alloc ?_ (by simp; try omega) _ | refine Below.setCell ?_ (by simp; try omega) _)
    · rw [decide_eq_false c1] at e1
      by_cases c2 : r.head? = some 44
      · obtain ⟨r', rfl⟩ := head_cons c2
        rw [decide_eq_true c2] at e2
        have hkr1 : (nats s).drop (k + 1) = r' := by rw [← List.drop_drop, hkr]; rfl
        have e3 := hasB_q hkr1 (k + 1) (by omega) 125 125 rfl
        have hk2 : k + 1 + r'.length = s.size := by simp at hkl; omega
        clear c1 c2 hkl hkr
        by_cases c3 : r'.head? = some 125
        · obtain ⟨r3, rfl⟩ := head_cons c3
          rw [decide_eq_true c3] at e3
          rw [tail_open, nextV_ok0, show s.size - r3.length = k + 2 from by simp at hk2; omega]
          have hk3 : k < 4294967296 := by simp at hk2; omega
          clear c3 hk2 hkr1
          go_enter Try.func68, Try.ntmps68
          go_wp2_with (first
            | (go_at_call 80; refine (number_b s _ (by omega) hs _).mono ?_; rintro e w1 ⟨rfl, rfl⟩)
            | (go_at_call 81; refine (has_b s _ _ (by omega) (by omega) _).mono ?_; rintro e w1 ⟨rfl, rfl⟩)
            | (go_at_call 67; refine (repetition_any _ _ _).mono ?_; rintro e w1 ⟨rfl, rfl⟩))
          refine bodyPost_ret (v := .tuple #[tokV0 6 m (-1), .int .i64 ((k + 2 : Nat)), .int .i64 0]) (by simp [results, Try.results68, go_sem]) rfl ⟨rfl, ?_⟩
          repeat (first | exact Below.refl _ _ | refine Below.drew ?_ | refine Below.alloc ?_ (by simp; try omega) _ | refine Below.setCell ?_ (by simp; try omega) _)
        · rw [decide_eq_false c3] at e3
          rw [tail_two m r' c3]
          have hn2 := numB_q hkr1 (k + 1) (by omega)
          rcases number_ways r' with ⟨h0, h1⟩ | ⟨h0, h1, h2⟩ | ⟨h0, h1, h2⟩
          · rw [if_pos h0]
            rw [h1, numV_bad _ _ (by decide)] at hn2
            have hk3 : k < 4294967296 := by omega
            clear h0 h1 c3 hk2 hkr1
            unfold nextV
            go_enter Try.func68, Try.ntmps68
            go_wp2_with (first
              | (go_at_call 80; refine (number_b s _ (by omega) hs _).mono ?_; rintro e w1 ⟨rfl, rfl⟩)
              | (go_at_call 81; refine (has_b s _ _ (by omega) (by omega) _).mono ?_; rintro e w1 ⟨rfl, rfl⟩)
              | (go_at_call 67; refine (repetition_any _ _ _).mono ?_; rintro e w1 ⟨rfl, rfl⟩))
            refine bodyPost_ret (v := .tuple #[tokV0 0 0 0, .int .i64 (0), .int .i64 2]) (by simp [results, Try.results68, go_sem]) rfl ⟨rfl, ?_⟩
            repeat (first | exact Below.refl _ _ | refine Below.drew ?_ | refine Below.alloc ?_ (by simp; try omega) _ | refine Below.setCell ?_ (by simp; try omega) _)
          · rw [if_neg h0, if_pos h1]
            rw [h2, numV_bad _ _ (by decide)] at hn2
            have hk3 : k < 4294967296 := by omega
            clear h0 h1 h2 c3 hk2 hkr1
            unfold nextV
            go_enter Try.func68, Try.ntmps68
            go_wp2_with (first
              | (go_at_call 80; refine (number_b s _ (by omega) hs _).mono ?_; rintro e w1 ⟨rfl, rfl⟩)
              | (go_at_call 81; refine (has_b s _ _ (by omega) (by omega) _).mono ?_; rintro e w1 ⟨rfl, rfl⟩)
              | (go_at_call 67; refine (repetition_any _ _ _).mono ?_; rintro e w1 ⟨rfl, rfl⟩))
            refine bodyPost_ret (v := .tuple #[tokV0 0 0 0, .int .i64 (0), .int .i64 4]) (by simp [results, Try.results68, go_sem]) rfl ⟨rfl, ?_⟩
            repeat (first | exact Below.refl _ _ | refine Below.drew ?_ | refine Below.alloc ?_ (by simp; try omega) _ | refine Below.setCell ?_ (by simp; try omega) _)
          · rw [if_neg h0, if_neg h1]
            rw [h2, numV_ok] at hn2
            obtain ⟨n, hm⟩ : ∃ n, n = numOf (r'.takeWhile isDig) := ⟨_, rfl⟩
            obtain ⟨j, hk⟩ : ∃ j, j = k + 1 + (r'.takeWhile isDig).length := ⟨_, rfl⟩
            obtain ⟨r4, hr⟩ : ∃ r4, r4 = r'.dropWhile isDig := ⟨_, rfl⟩
            have hjr : (nats s).drop j = r4 := by rw [hk, ← List.drop_drop, hkr1, take_drop_len, hr]
            have hjl : j + r4.length = s.size := by rw [hk, hr]; have := take_drop_size r' isDig; omega
            rw [← hm, ← hk] at hn2
            rw [← hm, ← hr]
            have hk3 : k < 4294967296 := by omega
            clear h0 h1 h2 hm hk hr c3 hk2 hkr1
            have e4 := hasB_q hjr j rfl 125 125 rfl
            by_cases c4 : r4.head? = some 125
            · obtain ⟨r5, rfl⟩ := head_cons c4
              rw [decide_eq_true c4] at e4
              rw [close_one]
              have hj3 : j < 4294967296 := by simp at hjl; omega
              by_cases hnm : n < m
              · rw [if_pos hnm]
                have hd : decide ((n : Int) < m) = true := by simp; omega
                clear c4 hjl hjr
                unfold nextV
                go_enter Try.func68, Try.ntmps68
                go_wp2_with (first
                  | (go_at_call 80; refine (number_b s _ (by omega) hs _).mono ?_; rintro e w1 ⟨rfl, rfl⟩)
                  | (go_at_call 81; refine (has_b s _ _ (by omega) (by omega) _).mono ?_; rintro e w1 ⟨rfl, rfl⟩)
                  | (go_at_call 67; refine (repetition_any _ _ _).mono ?_; rintro e w1 ⟨rfl, rfl⟩))
                refine bodyPost_ret (v := .tuple #[tokV0 0 0 0, .int .i64 (0), .int .i64 2]) (by simp [results, Try.results68, go_sem]) rfl ⟨rfl, ?_⟩
                repeat (first | exact Below.refl _ _ | refine Below.drew ?_ | refine Below.alloc ?_ (by simp; try omega) _ | refine Below.setCell ?_ (by simp; try omega) _)
              · rw [if_neg hnm, nextV_ok0, show s.size - r5.length = j + 1 from by simp at hjl; omega]
                have hd : decide ((n : Int) < m) = false := by simp; omega
                clear c4 hjl hjr
                go_enter Try.func68, Try.ntmps68
                go_wp2_with (first
                  | (go_at_call 80; refine (number_b s _ (by omega) hs _).mono ?_; rintro e w1 ⟨rfl, rfl⟩)
                  | (go_at_call 81; refine (has_b s _ _ (by omega) (by omega) _).mono ?_; rintro e w1 ⟨rfl, rfl⟩)
                  | (go_at_call 67; refine (repetition_any _ _ _).mono ?_; rintro e w1 ⟨rfl, rfl⟩))
                refine bodyPost_ret (v := .tuple #[tokV0 6 m n, .int .i64 ((j + 1 : Nat)), .int .i64 0]) (by simp [results, Try.results68, go_sem]) rfl ⟨rfl, ?_⟩
                repeat (first | exact Below.refl _ _ | refine Below.drew ?_ | refine Below.alloc ?_ (by simp; try omega) _ | refine Below.setCell ?_ (by simp; try omega) _)
            · rw [decide_eq_false c4] at e4
              rw [close_none m n r4 c4]
              clear c4 hjl hjr
              unfold nextV
              go_enter Try.func68, Try.ntmps68
              go_wp2_with (first
                | (go_at_call 80; refine (number_b s _ (by omega) hs _).mono ?_; rintro e w1 ⟨rfl, rfl⟩)
                | (go_at_call 81; refine (has_b s _ _ (by omega) (by omega) _).mono ?_; rintro e w1 ⟨rfl, rfl⟩)
                | (go_at_call 67; refine (repetition_any _ _ _).mono ?_; rintro e w1 ⟨rfl, rfl⟩))
              refine bodyPost_ret (v := .tuple #[tokV0 0 0 0, .int .i64 (0), .int .i64 2]) (by simp [results, Try.results68, go_sem]) rfl ⟨rfl, ?_⟩
              repeat (first | exact Below.refl _ _ | refine Below.drew ?_ | refine Below.alloc ?_ (by simp; try omega) _ | refine Below.setCell ?_ (by simp; try omega) _)
      · rw [decide_eq_false c2] at e2
        rw [tail_none m r c1 c2]
        have hk2 : k < 4294967296 := by omega
        clear c1 c2 hkl hkr
        unfold nextV
        go_enter Try.func68, Try.ntmps68
        go_wp2_with (first
          | (go_at_call 80; refine (number_b s _ (by omega) hs _).mono ?_; rintro e w1 ⟨rfl, rfl⟩)
          | (go_at_call 81; refine (has_b s _ _ (by omega) (by omega) _).mono ?_; rintro e w1 ⟨rfl, rfl⟩)
          | (go_at_call 67; refine (repetition_any _ _ _).mono ?_; rintro e w1 ⟨rfl, rfl⟩))
        refine bodyPost_ret (v := .tuple #[tokV0 0 0 0, .int .i64 (0), .int .i64 2]) (by simp [results, Try.results68, go_sem]) rfl ⟨rfl, ?_⟩
        repeat (first | exact Below.refl _ _ | refine Below.drew ?_ | refine Below.alloc ?_ (by simp; try omega) _ | refine Below.setCell ?_ (by simp; try omega) _)
end Go.Proofs.Ytjfenbjamlflcaa
