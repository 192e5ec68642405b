/- The plain mathematics of values: what counts of a list, the bytes, how many, the size, the text, whether two are the same, whether one is a value of a core. -/
import Derived.Test.YtblgjcolmaidlaaCoreMath
namespace Go.Proofs.Ytblgjcolmaidlaa
namespace V
set_option maxRecDepth 100000
open Go.RowKit

/-- a value: kind, byte, elements -/
inductive Vl where
  | mk (kind : Int) (b : Nat) (l : List Vl)
def Vl.kind : Vl → Int
  | .mk k _ _ => k
def Vl.byte : Vl → Nat
  | .mk _ b _ => b
def Vl.nodes : Vl → List Vl
  | .mk _ _ l => l
mutual
def Vl.count : Vl → Nat
  | .mk _ _ l => 1 + counts l
def counts : List Vl → Nat
  | [] => 0
  | x :: l => x.count + counts l
end
theorem count_mk (k : Int) (b : Nat) (l : List Vl) : (Vl.mk k b l).count = 1 + counts l := by rw [Vl.count]
theorem counts_cons (x : Vl) (l : List Vl) : counts (x :: l) = x.count + counts l := by rw [counts]
theorem counts_nil : counts [] = 0 := by rw [counts]
theorem Vl.count_pos (x : Vl) : 0 < x.count := by
  cases x; rw [count_mk]; omega
theorem counts_mem {l : List Vl} {x : Vl} (h : x ∈ l) : x.count ≤ counts l := by
  induction l with
  | nil => simp at h
  | cons y l ih =>
    rw [counts_cons]
    rcases List.mem_cons.mp h with rfl | h
    · omega
    · have := ih h; omega
theorem counts_len : ∀ l : List Vl, l.length ≤ counts l
  | [] => by simp
  | x :: l => by have := Vl.count_pos x; have := counts_len l; rw [counts_cons, List.length_cons]; omega
theorem counts_append (l m : List Vl) : counts (l ++ m) = counts l + counts m := by
  induction l with
  | nil => rw [counts_nil]; simp
  | cons x l ih => rw [List.cons_append, counts_cons, counts_cons, ih]; omega
theorem counts_take_le (l : List Vl) (j : Nat) : counts (l.take j) ≤ counts l := by
  have h := counts_append (l.take j) (l.drop j)
  rw [List.take_append_drop] at h
  omega
theorem take_succ_counts (l : List Vl) (j : Nat) (hj : j < l.length) : counts (l.take (j + 1)) = counts (l.take j) + l[j].count := by
  rw [List.take_succ_eq_append_getElem hj, counts_append, counts_cons, counts_nil]; rfl
/-! what counts of a list -/
def cntN (k : Int) (n : Nat) : Nat := if k = 3 then min 2 n else if k = 4 ∨ k = 5 ∨ k = 7 then min 1 n else if k = 6 then n else 0
theorem cntN_le (k : Int) (n : Nat) : cntN k n ≤ n := by unfold cntN; split <;> (try split) <;> (try split) <;> omega
/-! the bytes -/
mutual
def Vl.flat : Vl → List Nat
  | .mk k b l => if k = 2 then [b] else ((flatM l).take (cntN k l.length)).flatten
def flatM : List Vl → List (List Nat)
  | [] => []
  | x :: l => x.flat :: flatM l
end
theorem flatM_eq : ∀ l : List Vl, flatM l = l.map Vl.flat
  | [] => by rw [flatM]; rfl
  | x :: l => by rw [flatM, flatM_eq l]; rfl
theorem flat_mk (k : Int) (b : Nat) (l : List Vl) : (Vl.mk k b l).flat = if k = 2 then [b] else (l.take (cntN k l.length)).flatMap Vl.flat := by
  rw [Vl.flat, flatM_eq, ← List.map_take, List.flatMap_def]
/-- how many, and whether each round of a star has a byte -/
def stepM (k : Int) (a x : Int × Bool) : Int × Bool := (wrap64 (a.1 + x.1), a.2 && x.2 && (decide (0 < x.1) || (k != 6)))
mutual
def Vl.meas : Vl → Int × Bool
  | .mk k _ l => if k = 2 then (1, true) else ((measM l).take (cntN k l.length)).foldl (stepM k) (0, true)
def measM : List Vl → List (Int × Bool)
  | [] => []
  | x :: l => x.meas :: measM l
end
theorem measM_eq : ∀ l : List Vl, measM l = l.map Vl.meas
  | [] => by rw [measM]; rfl
  | x :: l => by rw [measM, measM_eq l]; rfl
theorem meas_mk (k : Int) (b : Nat) (l : List Vl) : (Vl.mk k b l).meas = if k = 2 then (1, true) else ((l.take (cntN k l.length)).map Vl.meas).foldl (stepM k) (0, true) := by
  rw [Vl.meas, measM_eq, List.map_take]
/-! how many values -/
mutual
def Vl.size : Vl → Nat
  | .mk k _ l => 1 + ((sizeM l).take (cntN k l.length)).sum
def sizeM : List Vl → List Nat
  | [] => []
  | x :: l => x.size :: sizeM l
end
theorem sizeM_eq : ∀ l : List Vl, sizeM l = l.map Vl.size
  | [] => by rw [sizeM]; rfl
  | x :: l => by rw [sizeM, sizeM_eq l]; rfl
theorem size_mk (k : Int) (b : Nat) (l : List Vl) : (Vl.mk k b l).size = 1 + ((l.take (cntN k l.length)).map Vl.size).sum := by
  rw [Vl.size, sizeM_eq, List.map_take]
/-! the text -/
def hexD (b : Nat) : Nat := if b < 10 then 48 + b else 87 + b
def hexT (b : Nat) : List Nat := [hexD (b / 16), hexD (b % 16)]
/-- with commas between -/
def joinT : List (List Nat) → List Nat
  | [] => []
  | [x] => x
  | x :: y :: l => x ++ 44 :: joinT (y :: l)
def partsT (k : Int) (b : Nat) (ps : List (List Nat)) : List Nat :=
  if k = 1 then [69] else if k = 2 then hexT b else if k = 3 then 40 :: (joinT ps ++ (if ps.length < 2 then [44, 41] else [41])) else if k = 4 then 76 :: joinT ps
  else if k = 5 then 82 :: joinT ps else if k = 6 then 91 :: (joinT ps ++ [93]) else if k = 7 then 60 :: (joinT ps ++ [62]) else [63]
mutual
def Vl.txt : Vl → List Nat
  | .mk k b l => partsT k b ((txtM l).take (cntN k l.length))
def txtM : List Vl → List (List Nat)
  | [] => []
  | x :: l => x.txt :: txtM l
end
theorem txtM_eq : ∀ l : List Vl, txtM l = l.map Vl.txt
  | [] => by rw [txtM]; rfl
  | x :: l => by rw [txtM, txtM_eq l]; rfl
theorem txt_mk (k : Int) (b : Nat) (l : List Vl) : (Vl.mk k b l).txt = partsT k b ((l.take (cntN k l.length)).map Vl.txt) := by
  rw [Vl.txt, txtM_eq, List.map_take]
/-! whether two are equal -/
mutual
def Vl.same : Vl → Vl → Bool
  | .mk k b l, .mk k' b' l' => decide (k = k') && decide (b = b') && sames l l'
def sames : List Vl → List Vl → Bool
  | [], [] => true
  | x :: l, y :: m => x.same y && sames l m
  | _, _ => false
end
theorem same_mk (k k' : Int) (b b' : Nat) (l l' : List Vl) : (Vl.mk k b l).same (.mk k' b' l') = (decide (k = k') && decide (b = b') && sames l l') := by rw [Vl.same]
theorem sames_cons (x y : Vl) (l m : List Vl) : sames (x :: l) (y :: m) = (x.same y && sames l m) := by rw [sames]
theorem sames_nil : sames [] [] = true := by rw [sames]
mutual
theorem Vl.same_refl : ∀ x : Vl, x.same x = true
  | .mk _ _ l => by rw [same_mk]; simp [sames_refl l]
theorem sames_refl : ∀ l : List Vl, sames l l = true
  | [] => sames_nil
  | x :: l => by rw [sames_cons, Vl.same_refl x, sames_refl l]; rfl
end
mutual
theorem Vl.same_eq : ∀ x y : Vl, x.same y = true → x = y
  | .mk _ _ l, .mk _ _ l', h => by
    rw [same_mk] at h
    simp only [Bool.and_eq_true, decide_eq_true_eq] at h
    obtain ⟨⟨rfl, rfl⟩, h⟩ := h
    rw [sames_eq l l' h]
theorem sames_eq : ∀ l m : List Vl, sames l m = true → l = m
  | [], [], _ => rfl
  | [], _ :: _, h => by simp [sames] at h
  | _ :: _, [], h => by simp [sames] at h
  | x :: l, y :: m, h => by
    rw [sames_cons, Bool.and_eq_true] at h
    rw [Vl.same_eq x y h.1, sames_eq l m h.2]
end
theorem sames_length : ∀ l m : List Vl, sames l m = true → l.length = m.length
  | [], [], _ => rfl
  | [], _ :: _, h => by simp [sames] at h
  | _ :: _, [], h => by simp [sames] at h
  | x :: l, y :: m, h => by
    rw [sames_cons, Bool.and_eq_true] at h
    rw [List.length_cons, List.length_cons, sames_length l m h.2]
theorem sames_append : ∀ (l m l2 m2 : List Vl), l.length = m.length → sames (l ++ l2) (m ++ m2) = (sames l m && sames l2 m2)
  | [], [], l2, m2, _ => by rw [sames_nil, Bool.true_and]; rfl
  | [], _ :: _, _, _, h => by simp at h
  | _ :: _, [], _, _, h => by simp at h
  | x :: l, y :: m, l2, m2, h => by
    rw [List.cons_append, List.cons_append, sames_cons, sames_cons, sames_append l m l2 m2 (by simpa using h), Bool.and_assoc]
theorem sames_take_succ (l m : List Vl) (j : Nat) (hl : j < l.length) (hm : j < m.length) : sames (l.take (j + 1)) (m.take (j + 1)) = (sames (l.take j) (m.take j) && l[j].same m[j]) := by
  rw [List.take_succ_eq_append_getElem hl, List.take_succ_eq_append_getElem hm, sames_append _ _ _ _ (by simp; omega), sames_cons, sames_nil, Bool.and_true]
theorem sames_part (l m : List Vl) (j : Nat) (hlen : l.length = m.length) (h : sames (l.take j) (m.take j) = false) : sames l m = false := by
  have e := sames_append (l.take j) (m.take j) (l.drop j) (m.drop j) (by simp; omega)
  rw [List.take_append_drop, List.take_append_drop, h, Bool.false_and] at e
  exact e
/-! whether one is a value of a core -/
/-- a value's own fields -/
def formV (k : Int) (b len : Nat) : Bool :=
  (k == 2 || decide (b = 0)) && (if k = 1 ∨ k = 2 then decide (len = 0) else if k = 3 then decide (len = 2) else if k = 4 ∨ k = 5 ∨ k = 7 then decide (len = 1) else decide (k = 6))
abbrev v0 : Vl := .mk 0 0 []
/-- of a core's parts, each told by which values it has: a value of such fields -/
def belK (k : Int) (s : BitVec 256) (fs : List (Vl → Bool)) (vk : Int) (b : Nat) (vl : List Vl) : Bool :=
  if k = 1 then vk == 1
  else if k = 2 then vk == 2 && s.getLsbD b
  else if k = 3 then vk == 3 && fs.getD 0 (fun _ => false) (vl.getD 0 v0) && fs.getD 1 (fun _ => false) (vl.getD 1 v0)
  else if k = 4 then vk == 4 && fs.getD 0 (fun _ => false) (vl.getD 0 v0) || vk == 5 && fs.getD 1 (fun _ => false) (vl.getD 0 v0)
  else if k = 5 then vk == 6 && vl.all (fs.getD 0 (fun _ => false))
  else if k = 6 then vk == 7 && fs.getD 0 (fun _ => false) (vl.getD 0 v0)
  else false
def belT (k : Int) (s : BitVec 256) (fs : List (Vl → Bool)) : Vl → Bool
  | .mk vk b vl => if k = 7 then fs.getD 0 (fun _ => false) (.mk vk b vl) else formV vk b vl.length && belK k s fs vk b vl
theorem belT_seven (s : BitVec 256) (fs : List (Vl → Bool)) (v : Vl) : belT 7 s fs v = fs.getD 0 (fun _ => false) v := by
  cases v; rfl
theorem belT_else {k : Int} (h : k ≠ 7) (s : BitVec 256) (fs : List (Vl → Bool)) (vk : Int) (b : Nat) (vl : List Vl) : belT k s fs (.mk vk b vl) = (formV vk b vl.length && belK k s fs vk b vl) := by
  show (if k = 7 then _ else _) = _
  rw [if_neg h]
mutual
def bel : K.Cr → Vl → Bool
  | .mk k s _ l => belT k s (belM l)
def belM : List K.Cr → List (Vl → Bool)
  | [] => []
  | x :: l => bel x :: belM l
end
theorem belM_eq : ∀ l : List K.Cr, belM l = l.map bel
  | [] => by rw [belM]; rfl
  | x :: l => by rw [belM, belM_eq l]; rfl
theorem bel_mk (k : Int) (s : BitVec 256) (n : Int) (l : List K.Cr) (v : Vl) : bel (.mk k s n l) v = belT k s (l.map bel) v := by
  rw [bel, belM_eq]
def goodV (c : K.Cr) (v : Vl) : Bool := K.goodC c && bel c v
end V
end Go.Proofs.Ytblgjcolmaidlaa
