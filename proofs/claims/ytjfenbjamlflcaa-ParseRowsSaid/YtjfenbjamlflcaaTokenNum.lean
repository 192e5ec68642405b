/- The walks of token's has, single, repetition, number. -/
import Derived.Test.YtjfenbjamlflcaaClassNamed
import Derived.Test.YtjfenbjamlflcaaTokenMath
import Derived.Test.YtjfenbjamlflcaaShelf
namespace Go.Proofs.Ytjfenbjamlflcaa
set_option maxRecDepth 100000
open Go.RowKit
/-- a text's bytes -/
def nats (s : ByteArray) : List Nat := s.data.toList.map UInt8.toNat
theorem nats_length (s : ByteArray) : (nats s).length = s.size := by rw [nats, List.length_map, ← Lib.size_eq]
theorem nats_at (s : ByteArray) (k : Nat) : (nats s)[k]? = if h : k < s.size then some (s[k]'h).toNat else none := by
  unfold nats
  by_cases h : k < s.size
  · rw [dif_pos h, List.getElem?_map, Array.getElem?_toList, Array.getElem?_eq_getElem h]
    rfl
  · rw [dif_neg h, List.getElem?_map, Array.getElem?_toList, Array.getElem?_eq_none (show s.data.size ≤ k from Nat.le_of_not_lt h)]
    rfl
theorem drop_head (l : List Nat) (k : Nat) : (l.drop k).head? = l[k]? := by simp
/-- what stands at a place, if the text has one there -/
theorem nats_cons {s : ByteArray} {k x : Nat} {r : List Nat} (h : (nats s).drop k = x :: r) : k < s.size ∧ (∀ h : k < s.size, (s[k]'h).toNat = x) ∧ x < 256 ∧ (nats s).drop (k + 1) = r := by
  have h1 : (nats s)[k]? = some x := by rw [← drop_head, h]; rfl
  rw [nats_at] at h1
  split at h1
  · rename_i hk
    injection h1 with h1
    exact ⟨hk, fun _ => h1, by rw [← h1]; exact UInt8.toNat_lt _, by rw [← List.drop_drop, h]; rfl⟩
  · cases h1
theorem nats_nil {s : ByteArray} {k : Nat} (h : (nats s).drop k = []) : s.size ≤ k := by
  rw [List.drop_eq_nil_iff, nats_length] at h; exact h
theorem ret_bool {a b : Bool} (h : a = b) : Ending.returned (.bool a) = .returned (.bool b) := by rw [h]
set_option maxHeartbeats 1000000 in
/-- has: whether a byte stands at a place -/
theorem has_q (s : ByteArray) (k : Nat) (q : List Nat) (b : Nat) (a c : Int) (ha : a = (k : Int)) (hc : c = (b : Int)) (hq : (nats s).drop k = q) (w : World) :
    Calls Try.prog 81 #[.string s, .int .i64 a, .int .u8 c] w fun e w' => e = .returned (.bool (decide (q.head? = some b))) ∧ w' = w := by
  subst ha hc
  rw [← hq, drop_head, nats_at]
  clear hq
  go_enter Try.func81, Try.ntmps81
  go_wp2
  all_goals go_ret
  all_goals refine ⟨ret_bool ?_, rfl⟩
  · rename_i h
    rw [Bool.eq_iff_iff]; simp; omega
  · rename_i h
    simp
/-- one byte of a bracket: it, or what is wrong -/
def singleM : List Nat → Nat × Nat
  | [] => (0, 2)
  | x :: r => if x = 91 then (if r.head? = some 46 ∨ r.head? = some 61 then (0, 3) else if r.head? = some 58 then (0, 2) else (91, 0)) else (x, 0)
theorem ret_ui {a b : Int} {c d : Int} (h : a = b) (h' : c = d) : Ending.returned (.tuple #[.int .u8 a, .int .i64 c]) = .returned (.tuple #[.int .u8 b, .int .i64 d]) := by rw [h, h']
set_option maxHeartbeats 1000000 in
theorem single_q (s : ByteArray) (k : Nat) (q : List Nat) (a : Int) (ha : a = (k : Int)) (hq : (nats s).drop k = q) (hk : k < 4294967296) (w : World) :
    Calls Try.prog 93 #[.string s, .int .i64 a] w fun e w' => e = .returned (.tuple #[.int .u8 (singleM q).1, .int .i64 (singleM q).2]) ∧ w' = w := by
  subst ha
  have Hq := Lib.hid hq
  clear hq
  cases q with
  | nil =>
    have hn := nats_nil Hq.out
    go_enter Try.func93, Try.ntmps93
    go_wp2
    all_goals try omega
    refine bodyPost_ret (v := .tuple #[.int .u8 0, .int .i64 2]) (by simp [results, Try.results93, go_sem]) rfl ⟨rfl, rfl⟩
  | cons x r =>
    obtain ⟨h1, h2, h3, h4⟩ := nats_cons Hq.out
    have H4 := Lib.hid h4
    clear h4
    go_enter Try.func93, Try.ntmps93
    go_wp2_with (go_at_call 81; refine (has_q s (k + 1) r _ _ _ (by omega) rfl H4.out _).mono ?_; rintro e w' ⟨rfl, rfl⟩)
    all_goals try omega
    · rename_i e
      have e' : x ≠ 91 := by simp at e; omega
      refine bodyPost_ret (v := .tuple #[.int .u8 x, .int .i64 0]) (by simp [results, Try.results93, go_sem]) rfl ⟨ret_ui ?_ ?_, rfl⟩ <;> simp [singleM, e']
    all_goals
      have e' : x = 91 := by simp_all; omega
      subst e'
    all_goals first
      | (refine bodyPost_ret (v := .tuple #[.int .u8 0, .int .i64 3]) (by simp [results, Try.results93, go_sem]) rfl ⟨ret_ui ?_ ?_, rfl⟩ <;> simp [singleM, *] <;> done)
      | (refine bodyPost_ret (v := .tuple #[.int .u8 0, .int .i64 2]) (by simp [results, Try.results93, go_sem]) rfl ⟨ret_ui ?_ ?_, rfl⟩ <;> simp [singleM, *] <;> done)
      | (refine bodyPost_ret (v := .tuple #[.int .u8 91, .int .i64 0]) (by simp [results, Try.results93, go_sem]) rfl ⟨ret_ui ?_ ?_, rfl⟩ <;> simp [singleM, *] <;> done)
theorem word_0 (i : Nat) : word (0#256) i = 0 := word_zero i
/-- a token, as the program holds it -/
abbrev tokV (t : Tok) (at_ : Int) : Value := .agg #[.int .i64 t.kind, .int .u64 (word t.set 0), .int .u64 (word t.set 1), .int .u64 (word t.set 2), .int .u64 (word t.set 3), .int .i64 t.lo, .int .i64 t.hi, .int .i64 at_]
/-- a token without a set -/
abbrev tokV0 (k : Nat) (lo hi : Int) : Value := .agg #[.int .i64 k, .int .u64 0, .int .u64 0, .int .u64 0, .int .u64 0, .int .i64 lo, .int .i64 hi, .int .i64 0]
theorem tokV_0 (k : Nat) (lo hi : Int) : tokV ⟨k, 0, lo, hi⟩ 0 = tokV0 k lo hi := by
  show Value.agg #[_, _, _, _, _, _, _, _] = _
  simp only [word_zero]
  rfl
/-- what next and its helpers hand back -/
def nextV (n : Nat) : TR → Value
  | .bad e => .tuple #[tokV0 0 0 0, .int .i64 0, .int .i64 e]
  | .ok t rest => .tuple #[tokV t 0, .int .i64 ((n - rest.length : Nat) : Int), .int .i64 0]
theorem nextV_ok0 (n k : Nat) (lo hi : Int) (rest : List Nat) : nextV n (.ok ⟨k, 0, lo, hi⟩ rest) = .tuple #[tokV0 k lo hi, .int .i64 ((n - rest.length : Nat) : Int), .int .i64 0] := by
  rw [← tokV_0]; rfl
theorem nextV_bad (n e : Nat) : nextV n (.bad e) = .tuple #[tokV0 0 0 0, .int .i64 0, .int .i64 e] := rfl
/-- a token that is a set -/
abbrev tokV1 (s : BitVec 256) : Value := .agg #[.int .i64 1, .int .u64 (word s 0), .int .u64 (word s 1), .int .u64 (word s 2), .int .u64 (word s 3), .int .i64 0, .int .i64 0, .int .i64 0]
theorem nextV_ok1 (n : Nat) (s : BitVec 256) (rest : List Nat) (d : Nat) (hd : n - rest.length = d) : nextV n (.ok ⟨1, s, 0, 0⟩ rest) = .tuple #[tokV1 s, .int .i64 (d : Nat), .int .i64 0] := by
  subst hd; rfl
set_option maxHeartbeats 1000000 in
theorem repetition_any (lo hi : Int) (w : World) :
    Calls Try.prog 67 #[.int .i64 lo, .int .i64 hi] w fun e w' => e = .returned (tokV0 6 lo hi) ∧ w' = w.alloc (.cells #[.int .i64 6, .int .u64 0, .int .u64 0, .int .u64 0, .int .u64 0, .int .i64 lo, .int .i64 hi, .int .i64 0] 95) := by
  go_enter Try.func67, Try.ntmps67
  go_wp2
  exact bodyPost_ret (v := tokV0 6 lo hi) (by simp [results, Try.results67, go_sem]) rfl ⟨rfl, rfl⟩
/-- what stands behind the digits, and their number as the program reckons it: never more than 256 -/
def capped (d : List Nat) : Nat := d.foldl (fun n c => min (10 * n + (c - 48)) 256) 0
def numberM (q : List Nat) : Nat × Nat × Nat :=
  let d := q.takeWhile isDig
  if d = [] then (0, 0, 2) else if 255 < capped d then (0, 0, 4) else (capped d, d.length, 0)
theorem ret_iii {a b c d e f : Int} (h : a = b) (h' : c = d) (h'' : e = f) : Ending.returned (.tuple #[.int .i64 a, .int .i64 c, .int .i64 e]) = .returned (.tuple #[.int .i64 b, .int .i64 d, .int .i64 f]) := by rw [h, h', h'']
theorem capped_le (d : List Nat) : capped d ≤ 256 := by
  have : ∀ (d : List Nat) (n : Nat), n ≤ 256 → d.foldl (fun n c => min (10 * n + (c - 48)) 256) n ≤ 256 := by
    intro d
    induction d with
    | nil => intro n h; exact h
    | cons c d ih => intro n _; exact ih _ (Nat.min_le_right _ _)
  exact this d 0 (by decide)
theorem capped_snoc (d : List Nat) (c : Nat) : capped (d ++ [c]) = min (10 * capped d + (c - 48)) 256 := by simp [capped]
def numV (k : Nat) (p : Nat × Nat × Nat) : Value := .tuple #[.int .i64 p.1, .int .i64 (if p.2.2 = 0 then k + p.2.1 else 0 : Nat), .int .i64 p.2.2]
/-- what the loop of number holds -/
def Digits (q : List Nat) (k : Nat) (n i : Value) (d r : List Nat) (x m : Nat) : Prop :=
  q = d ++ r ∧ (∀ c ∈ d, isDig c = true) ∧ x = k + d.length ∧ m = capped d ∧ n = .int .i64 m ∧ i = .int .i64 x
theorem drop_all : ∀ (d : List Nat), (∀ c ∈ d, isDig c = true) → d.dropWhile isDig = []
  | [], _ => rfl
  | c :: d, h => by rw [List.dropWhile_cons_of_pos (h c (by simp))]; exact drop_all d (fun x hx => h x (by simp [hx]))
theorem digits_end {q d r : List Nat} (hq : q = d ++ r) (hd : ∀ c ∈ d, isDig c = true) (hr : ∀ c r', r = c :: r' → isDig c = false) : q.takeWhile isDig = d ∧ q.dropWhile isDig = r := by
  subst hq
  cases r with
  | nil =>
    rw [List.append_nil]
    have h1 : d.takeWhile isDig = d := by
      have := List.takeWhile_append_dropWhile (p := isDig) (l := d)
      have h2 : d.dropWhile isDig = [] := drop_all d hd
      rw [h2, List.append_nil] at this
      exact this
    exact ⟨h1, drop_all d hd⟩
  | cons c r' => exact dig_run d r' c hd (hr c r' rfl)
theorem numberM_of {q d : List Nat} (h : q.takeWhile isDig = d) : numberM q = if d = [] then (0, 0, 2) else if 255 < capped d then (0, 0, 4) else (capped d, d.length, 0) := by
  unfold numberM; rw [h]
set_option maxHeartbeats 1000000 in
theorem number_q (s : ByteArray) (k : Nat) (q : List Nat) (a : Int) (ha : a = (k : Int)) (hq : (nats s).drop k = q) (hs : s.size < 4294967296) (w : World) :
    Calls Try.prog 80 #[.string s, .int .i64 a] w fun e w' => e = .returned (numV k (numberM q)) ∧ w' = w := by
  subst ha
  have Hq := Lib.hid hq
  clear hq
  generalize hP : numV k (numberM q) = P
  have HP := Lib.hid hP
  clear hP
  go_enter Try.func80, Try.ntmps80
  go_wp2
  go_loopw [7, 8] (fun n i wr => ∃ d r x m, Digits q k n i d r x m ∧ wr = w) (fun _ i _ => s.size + 1 - (intOf i).toNat)
  case atStart => exact ⟨[], q, k, 0, ⟨rfl, by simp, rfl, rfl, rfl, rfl⟩, rfl⟩
  case round =>
    obtain ⟨d, r, x, m, ⟨h1, h2, h3, h4, rfl, rfl⟩, rfl⟩ := hrel
    have hdr : (nats s).drop x = r := by rw [h3, ← List.drop_drop, Hq.out, h1, List.drop_left]
    have hm : m ≤ 256 := by rw [h4]; exact capped_le d
    have H1 := Lib.hid h1
    have H2 := Lib.hid h2
    have H3 := Lib.hid h3
    have H4 := Lib.hid h4
    have H5 := Lib.hid hdr
    clear h1 h2 h3 h4 hdr
    by_cases hdig : ∃ c r', r = c :: r' ∧ isDig c = true
    · obtain ⟨c, r', rfl, hc⟩ := hdig
      obtain ⟨g1, g2, g3, g4⟩ := nats_cons H5.out
      have hc' : 48 ≤ c ∧ c ≤ 57 := by simpa [isDig] using hc
      obtain ⟨hc1, hc2⟩ := hc'
      have Hc := Lib.hid hc
      clear hc g4
      go_wp2
      go_roundw
      case rel =>
        refine ⟨d ++ [c], r', x + 1, min (10 * m + (c - 48)) 256, ⟨by rw [H1.out]; simp, ?_, by rw [H3.out]; simp; omega, by rw [capped_snoc, H4.out], by go_num, by go_num⟩, trivial⟩
        intro y hy
        rcases List.mem_append.mp hy with hy | hy
        · exact H2.out y hy
        · rw [List.mem_singleton] at hy; rw [hy]; exact Hc.out
      case measure => simp [intOf]; omega
    · have hend : ∀ c r', r = c :: r' → isDig c = false := by
        intro c r' he
        cases hb : isDig c with
        | false => rfl
        | true => exact absurd ⟨c, r', he, hb⟩ hdig
      obtain ⟨e1, e2⟩ := digits_end H1.out H2.out hend
      have e3 := numberM_of e1
      have E3 := Lib.hid e3
      clear e1 e2 e3 hdig
      have hlen : x = k ↔ d = [] := by rw [H3.out]; cases d <;> simp
      have Hl := Lib.hid hlen
      clear hlen
      cases r with
      | nil =>
        have hn := nats_nil H5.out
        have Hend := Lib.hid hend
        clear hend
        go_wp2
        all_goals try omega
        all_goals rw [← HP.out, E3.out, ← H4.out]
        all_goals first
          | (refine bodyPost_ret (v := .tuple #[.int .i64 0, .int .i64 0, .int .i64 2]) (by simp [results, Try.results80, go_sem]) rfl ⟨?_, rfl⟩; rw [if_pos (Hl.out.mp (by simp_all; omega))]; rfl)
          | (refine bodyPost_ret (v := .tuple #[.int .i64 0, .int .i64 0, .int .i64 4]) (by simp [results, Try.results80, go_sem]) rfl ⟨?_, rfl⟩; rw [if_neg (fun h => absurd (Hl.out.mpr h) (by simp_all; omega)), if_pos (by omega)]; rfl)
          | (refine bodyPost_ret (v := .tuple #[.int .i64 m, .int .i64 x, .int .i64 0]) (by simp [results, Try.results80, go_sem]) rfl ⟨?_, rfl⟩; rw [if_neg (fun h => absurd (Hl.out.mpr h) (by simp_all; omega)), if_neg (by omega), H3.out]; rfl)
      | cons c r' =>
        obtain ⟨g1, g2, g3, g4⟩ := nats_cons H5.out
        have hc := hend c r' rfl
        have hc' : c < 48 ∨ 57 < c := by simp [isDig] at hc; omega
        have Hc := Lib.hid hc'
        clear hend hc hc' g4
        go_wp2
        all_goals have hc9 := Hc.out
        all_goals try omega
        all_goals rw [← HP.out, E3.out, ← H4.out]
        all_goals first
          | (refine bodyPost_ret (v := .tuple #[.int .i64 0, .int .i64 0, .int .i64 2]) (by simp [results, Try.results80, go_sem]) rfl ⟨?_, rfl⟩; rw [if_pos (Hl.out.mp (by simp_all; omega))]; rfl)
          | (refine bodyPost_ret (v := .tuple #[.int .i64 0, .int .i64 0, .int .i64 4]) (by simp [results, Try.results80, go_sem]) rfl ⟨?_, rfl⟩; rw [if_neg (fun h => absurd (Hl.out.mpr h) (by simp_all; omega)), if_pos (by omega)]; rfl)
          | (refine bodyPost_ret (v := .tuple #[.int .i64 m, .int .i64 x, .int .i64 0]) (by simp [results, Try.results80, go_sem]) rfl ⟨?_, rfl⟩; rw [if_neg (fun h => absurd (Hl.out.mpr h) (by simp_all; omega)), if_neg (by omega), H3.out]; rfl)
theorem capped_num (d : List Nat) : capped d = min (numOf d) 256 := by
  have : ∀ (d : List Nat) (a b : Nat), a = min b 256 → d.foldl (fun n c => min (10 * n + (c - 48)) 256) a = min (d.foldl (fun n c => 10 * n + (c - 48)) b) 256 := by
    intro d
    induction d with
    | nil => intro a b h; exact h
    | cons c d ih => intro a b h; exact ih _ _ (show min (10 * a + (c - 48)) 256 = min (10 * b + (c - 48)) 256 by omega)
  exact this d 0 0 rfl
/-- the three ways that a number can go -/
theorem number_ways (q : List Nat) : (q.takeWhile isDig = [] ∧ numberM q = (0, 0, 2)) ∨ (q.takeWhile isDig ≠ [] ∧ 255 < numOf (q.takeWhile isDig) ∧ numberM q = (0, 0, 4)) ∨
    (q.takeWhile isDig ≠ [] ∧ ¬ 255 < numOf (q.takeWhile isDig) ∧ numberM q = (numOf (q.takeWhile isDig), (q.takeWhile isDig).length, 0)) := by
  have h := numberM_of (q := q) rfl
  by_cases h0 : q.takeWhile isDig = []
  · rw [if_pos h0] at h; exact .inl ⟨h0, h⟩
  · rw [if_neg h0] at h
    by_cases h1 : 255 < numOf (q.takeWhile isDig)
    · rw [if_pos (by rw [capped_num]; omega)] at h; exact .inr (.inl ⟨h0, h1, h⟩)
    · rw [if_neg (by rw [capped_num]; omega), capped_num, Nat.min_eq_left (by omega)] at h; exact .inr (.inr ⟨h0, h1, h⟩)
theorem numV_bad (k e : Nat) (h : e ≠ 0) : numV k (0, 0, e) = .tuple #[.int .i64 0, .int .i64 0, .int .i64 e] := by
  unfold numV; simp only; rw [if_neg h]; rfl
theorem numV_ok (k n l : Nat) : numV k (n, l, 0) = .tuple #[.int .i64 n, .int .i64 (k + l : Nat), .int .i64 0] := rfl
/-! the same, of whatever place: told behind a name, so that a walk takes what is known of it -/
def hasB (s : ByteArray) (a c : Int) : Bool := decide ((nats s)[a.toNat]? = some c.toNat)
def numB (s : ByteArray) (a : Int) : Value := numV a.toNat (numberM ((nats s).drop a.toNat))
def sinB (s : ByteArray) (a : Int) : Value := .tuple #[.int .u8 (singleM ((nats s).drop a.toNat)).1, .int .i64 (singleM ((nats s).drop a.toNat)).2]
theorem has_b (s : ByteArray) (a c : Int) (ha : 0 ≤ a) (hc : 0 ≤ c) (w : World) :
    Calls Try.prog 81 #[.string s, .int .i64 a, .int .u8 c] w fun e w' => e = .returned (.bool (hasB s a c)) ∧ w' = w := by
  have := has_q s a.toNat _ c.toNat a c (by omega) (by omega) rfl w
  rw [drop_head] at this
  exact this
theorem number_b (s : ByteArray) (a : Int) (ha : 0 ≤ a) (hs : s.size < 4294967296) (w : World) :
    Calls Try.prog 80 #[.string s, .int .i64 a] w fun e w' => e = .returned (numB s a) ∧ w' = w :=
  number_q s a.toNat _ a (by omega) rfl hs w
theorem single_b (s : ByteArray) (a : Int) (ha : 0 ≤ a) (hk : a < 4294967296) (w : World) :
    Calls Try.prog 93 #[.string s, .int .i64 a] w fun e w' => e = .returned (sinB s a) ∧ w' = w :=
  single_q s a.toNat _ a (by omega) rfl (by omega) w
theorem hasB_q {s : ByteArray} {k : Nat} {q : List Nat} (hq : (nats s).drop k = q) (a : Int) (ha : a = (k : Int)) (c : Int) (b : Nat) (hc : c = (b : Int)) : hasB s a c = decide (q.head? = some b) := by
  subst ha hc
  unfold hasB
  rw [← hq, drop_head]; rfl
theorem numB_q {s : ByteArray} {k : Nat} {q : List Nat} (hq : (nats s).drop k = q) (a : Int) (ha : a = (k : Int)) : numB s a = numV k (numberM q) := by
  subst ha
  unfold numB
  rw [Int.toNat_natCast, hq]
theorem sinB_q {s : ByteArray} {k : Nat} {q : List Nat} (hq : (nats s).drop k = q) (a : Int) (ha : a = (k : Int)) : sinB s a = .tuple #[.int .u8 (singleM q).1, .int .i64 (singleM q).2] := by
  subst ha
  unfold sinB
  rw [Int.toNat_natCast, hq]
end Go.Proofs.Ytjfenbjamlflcaa
