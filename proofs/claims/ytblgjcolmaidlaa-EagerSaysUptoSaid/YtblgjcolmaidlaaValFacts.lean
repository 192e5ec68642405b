/- What the laws of layer 10 need of values: of a good one all elements count; lengths, sizes, texts. -/
import Derived.Test.YtblgjcolmaidlaaValGood
import Derived.Test.YtblgjcolmaidlaaValText
import Derived.Test.YtblgjcolmaidlaaValOps
import Derived.IntWalk
namespace Go.Proofs.Ytblgjcolmaidlaa
namespace V
set_option maxRecDepth 100000
open Go.RowKit
/-! full, over the bytes -/
mutual
def Vl.fullB : Vl → Bool
  | .mk k _ l => if k = 2 then true else ((fullM k l).take (cntN k l.length)).all id
def fullM (k : Int) : List Vl → List Bool
  | [] => []
  | x :: l => (x.fullB && (decide (0 < x.flat.length) || k != 6)) :: fullM k l
end
theorem fullM_eq (k : Int) : ∀ l : List Vl, fullM k l = l.map fun x => x.fullB && (decide (0 < x.flat.length) || k != 6)
  | [] => by rw [fullM]; rfl
  | x :: l => by rw [fullM, fullM_eq k l]; rfl
theorem fullB_mk (k : Int) (b : Nat) (l : List Vl) : (Vl.mk k b l).fullB = if k = 2 then true else (l.take (cntN k l.length)).all fun x => x.fullB && (decide (0 < x.flat.length) || k != 6) := by
  rw [Vl.fullB, fullM_eq, ← List.map_take, List.all_map]; rfl
theorem fold_meas (k : Int) : ∀ (L : List Vl) (a : Nat) (f : Bool), a + (L.flatMap Vl.flat).length < 4611686018427387904 → (∀ y ∈ L, y.meas = ((y.flat.length : Int), y.fullB)) →
    (L.map Vl.meas).foldl (stepM k) ((a : Int), f) = (((a + (L.flatMap Vl.flat).length : Nat) : Int), f && L.all fun x => x.fullB && (decide (0 < x.flat.length) || k != 6))
  | [], a, f, _, _ => by simp
  | x :: L, a, f, ha, h => by
    rw [List.flatMap_cons, List.length_append] at ha
    rw [List.map_cons, List.foldl_cons, h x (by simp)]
    have e : stepM k ((a : Int), f) ((x.flat.length : Int), x.fullB) = (((a + x.flat.length : Nat) : Int), f && x.fullB && (decide (0 < x.flat.length) || (k != 6))) := by
      unfold stepM
      simp only
      rw [IntWalk.wrap64_in _ (by omega)]
      congr 1
      · have : decide ((0 : Int) < (x.flat.length : Int)) = decide (0 < x.flat.length) := by by_cases h : 0 < x.flat.length <;> simp [h]
        rw [this]
    rw [e, fold_meas k L (a + x.flat.length) _ (by omega) (fun y hy => h y (by simp [hy])), List.flatMap_cons, List.length_append, List.all_cons]
    congr 1
    · congr 1; omega
    · simp only [Bool.and_assoc]
theorem meas_flat : ∀ (m : Nat) (x : Vl), x.count ≤ m → m < 4611686018427387904 → x.meas = ((x.flat.length : Int), x.fullB)
  | 0, x, h, _ => absurd (Vl.count_pos x) (by omega)
  | m + 1, .mk k b l, h, hm => by
    rw [meas_mk, flat_mk, fullB_mk]
    split
    · rfl
    · rw [count_mk] at h
      have h1 := fold_meas k (l.take (cntN k l.length)) 0 true (by have := flatTake_le l (cntN k l.length); omega) (fun y hy => meas_flat m y (by have := counts_mem (List.mem_of_mem_take hy); omega) (by omega))
      rw [Nat.zero_add, Bool.true_and] at h1
      exact h1
theorem len_flat {x : Vl} (h : x.count < 4611686018427387904) : x.meas.1 = (x.flat.length : Int) := by rw [meas_flat x.count x (Nat.le_refl _) h]
theorem full_flat {x : Vl} (h : x.count < 4611686018427387904) : x.meas.2 = x.fullB := by rw [meas_flat x.count x (Nat.le_refl _) h]
/-! of a good one all elements count -/
theorem bel_form : ∀ (m : Nat) (c : K.Cr) (v : Vl), c.count ≤ m → bel c v = true → formV v.kind v.byte v.nodes.length = true
  | 0, c, _, h, _ => absurd (K.Cr.count_pos c) (by omega)
  | m + 1, .mk k s n l, v, h, hb => by
    obtain ⟨vk, z, vl⟩ := v
    rw [bel_mk] at hb
    by_cases h7 : k = 7
    · subst h7
      rw [belT_seven] at hb
      match l, h, hb with
      | [], _, hb => simp at hb
      | x :: l, h, hb =>
        rw [K.count_mk, K.counts_cons] at h
        exact bel_form m x _ (by omega) (by simpa using hb)
    · rw [belT_else h7, Bool.and_eq_true] at hb
      exact hb.1
theorem form_cnt {k : Int} {b len : Nat} (h : formV k b len = true) : cntN k len = if k = 2 then 0 else len := by
  unfold formV at h
  rw [Bool.and_eq_true] at h
  have h := h.2
  unfold cntN
  by_cases h12 : k = 1 ∨ k = 2
  · rw [if_pos h12, decide_eq_true_eq] at h
    rw [if_neg (by omega), if_neg (by omega), if_neg (by omega)]
    split <;> omega
  · rw [if_neg h12] at h
    rw [if_neg (show ¬ k = 2 by omega)]
    by_cases h3 : k = 3
    · rw [if_pos h3, decide_eq_true_eq] at h
      rw [if_pos h3]; omega
    · rw [if_neg h3] at h
      rw [if_neg h3]
      by_cases h4 : k = 4 ∨ k = 5 ∨ k = 7
      · rw [if_pos h4, decide_eq_true_eq] at h
        rw [if_pos h4]; omega
      · rw [if_neg h4, decide_eq_true_eq] at h
        rw [if_neg h4, if_pos h]
theorem form_cntd {k : Int} {z : Nat} {l : List Vl} (h : formV k z l.length = true) : cntd (.mk k z l) = l := by
  rw [cntd_mk, form_cnt h]
  split
  · rename_i h2
    subst h2
    have : l.length = 0 := by simpa [formV] using h
    rw [List.length_eq_zero_iff.1 this]; rfl
  · exact List.take_length
/-- a good value's text is none of an unknown kind -/
theorem form_txt {v : Vl} (h : formV v.kind v.byte v.nodes.length = true) : v.txt ≠ [63] := by
  rw [txt_cntd]
  have hk : v.kind = 1 ∨ v.kind = 2 ∨ v.kind = 3 ∨ v.kind = 4 ∨ v.kind = 5 ∨ v.kind = 6 ∨ v.kind = 7 := by
    unfold formV at h
    rw [Bool.and_eq_true] at h
    have h := h.2
    by_cases h12 : v.kind = 1 ∨ v.kind = 2
    · omega
    rw [if_neg h12] at h
    by_cases h3 : v.kind = 3
    · omega
    rw [if_neg h3] at h
    by_cases h4 : v.kind = 4 ∨ v.kind = 5 ∨ v.kind = 7
    · omega
    rw [if_neg h4, decide_eq_true_eq] at h
    omega
  generalize (cntd v).map Vl.txt = ps
  generalize v.kind = k at *
  unfold partsT
  rcases hk with rfl | rfl | rfl | rfl | rfl | rfl | rfl <;> simp [hexT]
end V
end Go.Proofs.Ytblgjcolmaidlaa
