/- ValWalks, ValMeas, ValFlat, ValSame, as one. -/
import Derived.Test.YtblgjcolmaidlaaValKit
import Derived.Deep.LoopGhost
import Derived.Test.YtblgjcolmaidlaaOpenBytes
import Derived.Test.YtblgjcolmaidlaaText
import Derived.Test.YtblgjcolmaidlaaTreeOps
import Derived.Test.YtblgjcolmaidlaaLater
namespace Go.Proofs.Ytblgjcolmaidlaa
namespace V
set_option maxRecDepth 100000
open Go.RowKit
/-- what counts of a value's list -/
def cntd : Vl → List Vl
  | .mk k _ l => l.take (cntN k l.length)
theorem cntd_mk (k : Int) (z : Nat) (l : List Vl) : cntd (.mk k z l) = l.take (cntN k l.length) := rfl
theorem cntd_counts (x : Vl) : counts (cntd x) < x.count := by
  cases x with
  | mk k z l => rw [cntd_mk, count_mk]; have := counts_take_le l (cntN k l.length); omega
theorem listAt_take {w : World} {l : List Vl} {a : Option Addr} {cap : Nat} (hmax : l.length ≤ maxLen) (hl : l.length = 0 ∨ ∃ b off, a = some ⟨b, off, none⟩ ∧ l.length ≤ cap ∧ b < w.heap.size ∧ valsAt w l b off) {n : Nat} (hn : n ≤ l.length) :
    ListAt w (l.take n) (.slice a n cap) := by
  have hlen : (l.take n).length = n := by simp; omega
  refine ⟨a, cap, by rw [hlen], by omega, ?_⟩
  rcases hl with hl | ⟨b, off, e1, e2, e3, e4⟩
  · left; omega
  · exact .inr ⟨b, off, e1, by omega, e3, valsAt_take l n off e4⟩
/-! Size -/
theorem size_cntd (x : Vl) : x.size = 1 + ((cntd x).map Vl.size).sum := by
  cases x with
  | mk k z l => rw [size_mk]; rfl
theorem sum_take_le (l : List Vl) (f : Vl → Nat) (j : Nat) : ((l.take j).map f).sum ≤ (l.map f).sum := by
  have h : l.map f = (l.take j).map f ++ (l.drop j).map f := by rw [← List.map_append, List.take_append_drop]
  rw [h, List.sum_append]; omega
mutual
theorem size_le : ∀ x : Vl, x.size ≤ x.count
  | .mk k z l => by
    rw [size_mk, count_mk]
    have h1 := sizes_le l
    have h2 : ((l.take (cntN k l.length)).map Vl.size).sum ≤ (l.map Vl.size).sum := by
      exact sum_take_le l Vl.size _
    omega
theorem sizes_le : ∀ l : List Vl, (l.map Vl.size).sum ≤ counts l
  | [] => by simp
  | x :: l => by
    have := size_le x
    have := sizes_le l
    rw [List.map_cons, List.sum_cons, counts_cons]; omega
end
theorem sum_take_succ (l : List Vl) (f : Vl → Nat) (j : Nat) (hj : j < l.length) : ((l.take (j + 1)).map f).sum = ((l.take j).map f).sum + f l[j] := by
  rw [List.take_succ_eq_append_getElem hj, List.map_append, List.sum_append]; simp
end V
end Go.Proofs.Ytblgjcolmaidlaa
namespace Go.Proofs.Ytblgjcolmaidlaa
namespace V
set_option maxRecDepth 100000
open Go.RowKit
theorem meas_cntd {x : Vl} (h : x.kind ≠ 2) : x.meas = ((cntd x).map Vl.meas).foldl (stepM x.kind) (0, true) := by
  cases x with
  | mk k z l => rw [meas_mk, if_neg (show ¬ k = 2 from h)]; rfl
theorem fold_take_succ (k : Int) (l : List Vl) (j : Nat) (hj : j < l.length) : ((l.take (j + 1)).map Vl.meas).foldl (stepM k) (0, true) = stepM k (((l.take j).map Vl.meas).foldl (stepM k) (0, true)) l[j].meas := by
  rw [List.take_succ_eq_append_getElem hj, List.map_append, List.foldl_append]; rfl
end V
end Go.Proofs.Ytblgjcolmaidlaa
namespace Go.Proofs.Ytblgjcolmaidlaa
namespace V
set_option maxRecDepth 100000
open Go.RowKit
theorem flat_cntd {x : Vl} (h : x.kind ≠ 2) : x.flat = (cntd x).flatMap Vl.flat := by
  cases x with
  | mk k z l => rw [flat_mk, if_neg (show ¬ k = 2 from h)]; rfl
mutual
theorem flat_le : ∀ x : Vl, x.flat.length ≤ x.count
  | .mk k z l => by
    rw [flat_mk, count_mk]
    split
    · simp
    · have h3 := flatTake_le l (cntN k l.length)
      omega
theorem flatTake_le : ∀ (l : List Vl) (n : Nat), ((l.take n).flatMap Vl.flat).length ≤ counts l
  | [], n => by simp
  | x :: l, 0 => by simp
  | x :: l, n + 1 => by
    have := flat_le x
    have := flatTake_le l n
    rw [List.take_succ_cons, List.flatMap_cons, List.length_append, counts_cons]; omega
end
theorem flatMap_take_succ (l : List Vl) (j : Nat) (hj : j < l.length) : (l.take (j + 1)).flatMap Vl.flat = (l.take j).flatMap Vl.flat ++ l[j].flat := by
  rw [List.take_succ_eq_append_getElem hj, List.flatMap_append]; simp
theorem flatMap_take_len (l : List Vl) (j : Nat) : ((l.take j).flatMap Vl.flat).length ≤ (l.flatMap Vl.flat).length := by
  have h : l.flatMap Vl.flat = (l.take j).flatMap Vl.flat ++ (l.drop j).flatMap Vl.flat := by rw [← List.flatMap_append, List.take_append_drop]
  rw [h, List.length_append]; omega
end V
end Go.Proofs.Ytblgjcolmaidlaa
namespace Go.Proofs.Ytblgjcolmaidlaa
namespace V
set_option maxRecDepth 100000
open Go.RowKit
theorem two_below (w : World) (o o' : Obj) : Below w.heap.size w ((w.alloc o).alloc o') := ((Below.refl _ _).alloc (Nat.le_refl _) _).alloc (by simp) _
theorem at_later {w wr : World} {x : Vl} {cs : List Value} (hB : Below w.heap.size w wr) (L : Later wr) (h : Vl.at w x cs) : Vl.at L.val x cs :=
  Vl.at_below (hB.trans (L.ok.mono hB.size)) (Nat.le_refl _) _ _ h
end V
end Go.Proofs.Ytblgjcolmaidlaa
