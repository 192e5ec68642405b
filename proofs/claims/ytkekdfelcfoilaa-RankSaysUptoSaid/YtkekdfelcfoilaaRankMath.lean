/- The POSIX order of values, as mathematics: lengths as they wrap, then kinds, bytes, elements in turn, then how many. -/
import Derived.Test.YtkekdfelcfoilaaValOps
namespace Go.Proofs.Ytkekdfelcfoilaa
namespace V
set_option maxRecDepth 100000
open Go.RowKit
/-- the order of two numbers -/
def cmpI (a b : Int) : Int := if a < b then -1 else if b < a then 1 else 0
/-- the first that is not 0 -/
def orI (a b : Int) : Int := if a = 0 then b else a
theorem orI_zero (b : Int) : orI 0 b = b := rfl
theorem orI_ne {a b : Int} (h : a ≠ 0) : orI a b = a := if_neg h
theorem orI_same (a : Int) : orI a 0 = a := by unfold orI; split <;> omega
theorem orI_assoc (a b c : Int) : orI (orI a b) c = orI a (orI b c) := by
  unfold orI; by_cases h : a = 0 <;> simp [h]
theorem cmpI_self (a : Int) : cmpI a a = 0 := by unfold cmpI; simp
theorem cmpI_flip (a b : Int) : cmpI b a = -cmpI a b := by unfold cmpI; split <;> split <;> omega
theorem cmpI_zero {a b : Int} (h : cmpI a b = 0) : a = b := by unfold cmpI at h; split at h <;> (try split at h) <;> omega
theorem cmpI_three (a b : Int) : cmpI a b = -1 ∨ cmpI a b = 0 ∨ cmpI a b = 1 := by unfold cmpI; split <;> (try split) <;> simp
/-- in turn: the first difference decides, then the greater number of elements -/
def cmpL : List (Vl → Int) → List Vl → Int
  | [], [] => 0
  | [], _ :: _ => 1
  | _ :: _, [] => -1
  | f :: fs, y :: m => orI (f y) (cmpL fs m)
/-- the length of a value, as it wraps -/
def Vl.len (x : Vl) : Int := x.meas.1
def ordT (k : Int) (b : Nat) (n : Int) (fs : List (Vl → Int)) (w : Vl) : Int :=
  orI (cmpI 0 (wrap64 (n - w.len))) (if k = w.kind then (if k = 2 then cmpI b w.byte else cmpL (fs.take (cntN k fs.length)) (cntd w)) else cmpI k w.kind)
mutual
def ord : Vl → Vl → Int
  | .mk k b l => ordT k b (Vl.mk k b l).len (ordM l)
def ordM : List Vl → List (Vl → Int)
  | [] => []
  | x :: l => ord x :: ordM l
end
theorem ordM_eq : ∀ l : List Vl, ordM l = l.map ord
  | [] => by rw [ordM]; rfl
  | x :: l => by rw [ordM, ordM_eq l]; rfl
def ordL (l m : List Vl) : Int := cmpL (l.map ord) m
theorem ordL_nil : ordL [] [] = 0 := rfl
theorem ordL_less (y : Vl) (m : List Vl) : ordL [] (y :: m) = 1 := rfl
theorem ordL_more (x : Vl) (l : List Vl) : ordL (x :: l) [] = -1 := rfl
theorem ordL_cons (x y : Vl) (l m : List Vl) : ordL (x :: l) (y :: m) = orI (ord x y) (ordL l m) := rfl
/-- what decides behind the lengths -/
def part (x y : Vl) : Int := if x.kind = y.kind then (if x.kind = 2 then cmpI x.byte y.byte else ordL (cntd x) (cntd y)) else cmpI x.kind y.kind
/-- by how many bytes the first is longer -/
def longer (x y : Vl) : Int := wrap64 (x.len - y.len)
theorem ord_eq (x y : Vl) : ord x y = orI (cmpI 0 (longer x y)) (part x y) := by
  cases x with
  | mk k b l =>
    rw [ord, ordM_eq]
    unfold ordT longer part ordL
    rw [cntd_mk, List.length_map, List.map_take]
    rfl
/-! lengths of lists -/
def lens (l : List Vl) : Int := (l.map Vl.len).foldl (fun s n => wrap64 (s + n)) 0
theorem wrap_wrap (a : Int) : wrap64 (wrap64 a) = wrap64 a := by unfold wrap64; omega
theorem wrap_add (a b : Int) : wrap64 (wrap64 a + b) = wrap64 (a + b) := by unfold wrap64; omega
theorem wrap_add' (a b : Int) : wrap64 (a + wrap64 b) = wrap64 (a + b) := by unfold wrap64; omega
theorem fold_wrap : ∀ (l : List Int) (s : Int), l.foldl (fun s n => wrap64 (s + n)) (wrap64 s) = wrap64 (s + l.sum)
  | [], s => by simp
  | n :: l, s => by rw [List.foldl_cons, wrap_add, fold_wrap l (s + n), List.sum_cons]; congr 1; omega
theorem lens_eq (l : List Vl) : lens l = wrap64 (l.map Vl.len).sum := by
  unfold lens
  have h := fold_wrap (l.map Vl.len) 0
  rw [show wrap64 0 = 0 from by unfold wrap64; omega] at h
  rw [h]; congr 1; omega
theorem lens_drop (l : List Vl) (j : Nat) (hj : j < l.length) : wrap64 (l[j].len + lens (l.drop (j + 1))) = lens (l.drop j) := by
  rw [List.drop_eq_getElem_cons hj, lens_eq, lens_eq, wrap_add', List.map_cons, List.sum_cons]
theorem lens_wrap (l : List Vl) : wrap64 (lens l) = lens l := by rw [lens_eq, wrap_wrap]
theorem lens_nil : lens [] = 0 := rfl
theorem lens_take_succ (l : List Vl) (j : Nat) (hj : j < l.length) : lens (l.take (j + 1)) = wrap64 (lens (l.take j) + l[j].len) := by
  unfold lens
  rw [List.take_succ_eq_append_getElem hj, List.map_append, List.foldl_append]; rfl
theorem meas_fold (k : Int) : ∀ (l : List (Int × Bool)) (s : Int) (g : Bool), (l.foldl (stepM k) (s, g)).1 = (l.map (·.1)).foldl (fun s n => wrap64 (s + n)) s
  | [], s, g => rfl
  | x :: l, s, g => by rw [List.foldl_cons, List.map_cons, List.foldl_cons]; exact meas_fold k l _ _
theorem len_mk (k : Int) (z : Nat) (l : List Vl) : (Vl.mk k z l).len = if k = 2 then 1 else lens (cntd (.mk k z l)) := by
  unfold Vl.len
  rw [meas_mk]
  split
  · rfl
  · rw [meas_fold, cntd_mk, List.map_map]; rfl
theorem len_two {x : Vl} (h : x.kind = 2) : x.len = 1 := by
  cases x with
  | mk k z l => rw [len_mk, if_pos (show k = 2 from h)]
theorem len_cntd {x : Vl} (h : x.kind ≠ 2) : x.len = lens (cntd x) := by
  cases x with
  | mk k z l => rw [len_mk, if_neg (show k ≠ 2 from h)]
theorem len_wrap (x : Vl) : wrap64 x.len = x.len := by
  by_cases h : x.kind = 2
  · rw [len_two h]; unfold wrap64; omega
  · rw [len_cntd h, lens_wrap]
theorem longer_wrap (x y : Vl) : wrap64 (longer x y) = longer x y := wrap_wrap _
theorem longer_zero {x y : Vl} (h : ord x y = 0) : longer x y = 0 := by
  rw [ord_eq] at h
  unfold orI at h
  split at h
  · rename_i h0; exact (cmpI_zero h0).symm
  · contradiction
/-! every value is as good as itself -/
theorem longer_self (x : Vl) : longer x x = 0 := by unfold longer; rw [Int.sub_self]; unfold wrap64; omega
mutual
theorem ord_self : ∀ x : Vl, ord x x = 0
  | .mk k z l => by
    rw [ord_eq, longer_self, cmpI_self, orI_zero]
    unfold part
    rw [if_pos rfl]
    split
    · exact cmpI_self _
    · rw [cntd_mk]; exact ordL_self l _
theorem ordL_self : ∀ (l : List Vl) (n : Nat), ordL (l.take n) (l.take n) = 0
  | [], n => by rw [List.take_nil]; rfl
  | x :: l, 0 => rfl
  | x :: l, n + 1 => by rw [List.take_succ_cons, ordL_cons, ord_self x, orI_zero, ordL_self l n]
end
/-! how compareLists goes: what the first so many told, then the rest -/
structure CmpAt (l m : List Vl) (i : Nat) (a o : Int) : Prop where
  left : i ≤ l.length
  right : i ≤ m.length
  len : wrap64 (lens l - lens m) = wrap64 (a + (lens (l.drop i) - lens (m.drop i)))
  ord : ordL l m = orI o (ordL (l.drop i) (m.drop i))
  zero : o = 0 → a = 0
theorem cmpAt_start (l m : List Vl) : CmpAt l m 0 0 0 := ⟨Nat.zero_le _, Nat.zero_le _, by simp, rfl, fun _ => rfl⟩
theorem cmpAt_step {l m : List Vl} {i : Nat} {a : Int} (h : CmpAt l m i a 0) (hl : i < l.length) (hm : i < m.length) : CmpAt l m (i + 1) (longer l[i] m[i]) (V.ord l[i] m[i]) := by
  refine ⟨hl, hm, ?_, ?_, fun h0 => longer_zero h0⟩
  · rw [h.len, h.zero rfl, ← lens_drop l i hl, ← lens_drop m i hm]
    unfold longer wrap64; omega
  · rw [h.ord, orI_zero, List.drop_eq_getElem_cons hl, List.drop_eq_getElem_cons hm, ordL_cons]
theorem ordL_short {l m : List Vl} (h : l = [] ∨ m = []) : ordL l m = cmpI m.length l.length := by
  rcases h with rfl | rfl
  · cases m with
    | nil => rfl
    | cons y m => rw [ordL_less]; unfold cmpI; simp; omega
  · cases l with
    | nil => rfl
    | cons x l => rw [ordL_more]; unfold cmpI; simp
theorem cmpAt_end {l m : List Vl} {i : Nat} {a o : Int} (h : CmpAt l m i a o) (he : o ≠ 0 ∨ i = l.length ∨ i = m.length) :
    wrap64 (a + wrap64 (lens (l.drop i) - lens (m.drop i))) = wrap64 (lens l - lens m) ∧ orI o (cmpI m.length l.length) = ordL l m := by
  refine ⟨by rw [wrap_add', h.len], ?_⟩
  rw [h.ord]
  by_cases ho : o = 0
  · subst ho
    rw [orI_zero, orI_zero, ordL_short (by
      rcases he with he | he | he
      · exact absurd rfl he
      · left; rw [List.drop_eq_nil_iff]; omega
      · right; rw [List.drop_eq_nil_iff]; omega)]
    rw [List.length_drop, List.length_drop]
    have := h.left
    have := h.right
    unfold cmpI
    split <;> split <;> (try split) <;> (try split) <;> omega
  · rw [orI_ne ho, orI_ne ho]
theorem longer_parts {x y : Vl} (h : x.kind = y.kind) : longer x y = if x.kind = 2 then 0 else wrap64 (lens (cntd x) - lens (cntd y)) := by
  unfold longer
  split
  · rename_i h2; rw [len_two h2, len_two (h ▸ h2)]; unfold wrap64; omega
  · rename_i h2; rw [len_cntd h2, len_cntd (h ▸ h2)]
end V
end Go.Proofs.Ytkekdfelcfoilaa
