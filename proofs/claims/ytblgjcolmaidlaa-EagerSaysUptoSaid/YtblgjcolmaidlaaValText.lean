/- value.write, writeList, Text, walked for every value that is not too great. -/
import Derived.Test.YtblgjcolmaidlaaValOps
import Derived.Test.YtblgjcolmaidlaaBuilder
import Derived.Deep.DeepCutAuto
namespace Go.Proofs.Ytblgjcolmaidlaa
namespace V
set_option maxRecDepth 100000
open Go.RowKit
theorem txt_cntd (x : Vl) : x.txt = partsT x.kind x.byte ((cntd x).map Vl.txt) := by
  cases x with
  | mk k z l => rw [txt_mk]; rfl
theorem join_append (p : List Nat) : ∀ ps : List (List Nat), joinT (ps ++ [p]) = joinT ps ++ ((if ps = [] then [] else [44]) ++ p)
  | [] => rfl
  | [x] => by simp [joinT]
  | x :: y :: ps => by
    have h := join_append p (y :: ps)
    rw [List.cons_append, List.cons_append, joinT, ← List.cons_append, h, joinT, if_neg (List.cons_ne_nil _ _), if_neg (List.cons_ne_nil _ _)]
    simp
theorem join_take (L : List Vl) (k : Nat) (hk : k < L.length) : joinT ((L.take (k + 1)).map Vl.txt) = joinT ((L.take k).map Vl.txt) ++ ((if k = 0 then [] else [44]) ++ L[k].txt) := by
  rw [List.take_succ_eq_append_getElem hk, List.map_append, List.map_cons, List.map_nil, join_append]
  congr 2
  by_cases h : k = 0
  · subst h; simp
  · rw [if_neg h, if_neg]
    intro h2
    have := congrArg List.length h2
    rw [List.length_map, List.length_take, List.length_nil] at this
    omega
theorem join_pre (L : List Vl) (k : Nat) : (joinT ((L.take k).map Vl.txt)).length ≤ (joinT (L.map Vl.txt)).length := by
  by_cases hk : L.length ≤ k
  · rw [List.take_of_length_le hk]; exact Nat.le_refl _
  · have h := join_pre L (k + 1)
    rw [join_take L k (by omega), List.length_append] at h
    exact Nat.le_trans (Nat.le_add_right _ _) h
termination_by L.length - k
theorem hexD_lt (b : Nat) (h : b < 16) : hexD b < 256 := by unfold hexD; split <;> omega
theorem join_lt {ps : List (List Nat)} (h : ∀ p ∈ ps, ∀ c ∈ p, c < 256) : ∀ c ∈ joinT ps, c < 256 := by
  induction ps with
  | nil => intro c hc; simp [joinT] at hc
  | cons x ps ih =>
    cases ps with
    | nil => exact h x (by simp)
    | cons y ps =>
      intro c hc
      rw [joinT, List.mem_append, List.mem_cons] at hc
      rcases hc with hc | rfl | hc
      · exact h x (by simp) c hc
      · decide
      · exact ih (fun p hp => h p (by simp [hp])) c hc
theorem parts_lt {k : Int} {b : Nat} (hb : b < 256) {ps : List (List Nat)} (h : ∀ p ∈ ps, ∀ c ∈ p, c < 256) : ∀ c ∈ partsT k b ps, c < 256 := by
  have hj := join_lt h
  intro c hc
  unfold partsT at hc
  split at hc
  · simp at hc; omega
  split at hc
  · unfold hexT at hc
    rw [List.mem_cons, List.mem_singleton] at hc
    rcases hc with rfl | rfl
    · exact hexD_lt _ (by omega)
    · exact hexD_lt _ (by omega)
  split at hc
  · rw [List.mem_cons, List.mem_append] at hc
    rcases hc with rfl | hc | hc
    · decide
    · exact hj c hc
    · split at hc <;> simp at hc <;> omega
  split at hc
  · rw [List.mem_cons] at hc
    rcases hc with rfl | hc
    · decide
    · exact hj c hc
  split at hc
  · rw [List.mem_cons] at hc
    rcases hc with rfl | hc
    · decide
    · exact hj c hc
  split at hc
  · rw [List.mem_cons, List.mem_append] at hc
    rcases hc with rfl | hc | hc
    · decide
    · exact hj c hc
    · simp at hc; omega
  split at hc
  · rw [List.mem_cons, List.mem_append] at hc
    rcases hc with rfl | hc | hc
    · decide
    · exact hj c hc
    · simp at hc; omega
  · simp at hc; omega
/-- what a writer promises -/
def Writes (b : Nat) (w : World) (v : Value) (l : List Nat) (e : Ending) (w' : World) : Prop := e = .returned (.tuple #[]) ∧ ∃ v', Bld w' b b l v' ∧ Wrote b b w v w' v'
def most : Nat := 140737488355000
theorem room1 {a b c d m : Nat} (h : a + (b + c + d) + 8 ≤ m) : a + b + 8 ≤ m := by omega
abbrev hexS : ByteArray := ⟨#[48, 49, 50, 51, 52, 53, 54, 55, 56, 57, 97, 98, 99, 100, 101, 102]⟩
theorem hex_at : ∀ c (h : c < hexS.size), (hexS[c]'h).toNat = hexD c := by decide +kernel
theorem count_cntd {x y : Vl} (h : y ∈ cntd x) : y.count < x.count := by
  have h1 := counts_mem h
  have h2 := cntd_counts x
  omega
/-! how long a text may be; its bytes -/
theorem join_len : ∀ ps : List (List Nat), (joinT ps).length ≤ (ps.map (·.length + 1)).sum
  | [] => by simp [joinT]
  | [x] => by simp [joinT]
  | x :: y :: ps => by
    have := join_len (y :: ps)
    rw [joinT, List.length_append, List.length_cons, List.map_cons, List.sum_cons]
    omega
theorem parts_len (k : Int) (b : Nat) (ps : List (List Nat)) : (partsT k b ps).length ≤ 3 + (ps.map (·.length + 1)).sum := by
  have h := join_len ps
  unfold partsT hexT
  repeat' split
  all_goals (try simp only [List.length_cons, List.length_append, List.length_nil])
  all_goals omega
mutual
theorem txt_le : ∀ x : Vl, x.txt.length + 1 ≤ 4 * x.count
  | .mk k b l => by
    have h := parts_len k b ((l.take (cntN k l.length)).map Vl.txt)
    have h2 := txts_le l (cntN k l.length)
    rw [txt_mk, count_mk]
    rw [List.map_map] at h
    have e : ((l.take (cntN k l.length)).map ((fun x => x.length + 1) ∘ Vl.txt)) = (l.take (cntN k l.length)).map (fun x => x.txt.length + 1) := rfl
    rw [e] at h
    omega
theorem txts_le : ∀ (l : List Vl) (n : Nat), ((l.take n).map (fun x => x.txt.length + 1)).sum ≤ 4 * counts l
  | [], n => by simp
  | x :: l, 0 => by simp
  | x :: l, n + 1 => by
    have := txt_le x
    have := txts_le l n
    rw [List.take_succ_cons, List.map_cons, List.sum_cons, counts_cons]; omega
end
/-! the bytes of a value are bytes -/
mutual
def Vl.okB : Vl → Bool
  | .mk _ b l => decide (b < 256) && okBs l
def okBs : List Vl → Bool
  | [] => true
  | x :: l => x.okB && okBs l
end
theorem okB_mk (k : Int) (b : Nat) (l : List Vl) : (Vl.mk k b l).okB = (decide (b < 256) && okBs l) := by rw [Vl.okB]
theorem okBs_cons (x : Vl) (l : List Vl) : okBs (x :: l) = (x.okB && okBs l) := by rw [okBs]
mutual
theorem at_okB {w : World} : ∀ (x : Vl) (cs : List Value), Vl.at w x cs → x.okB = true
  | .mk k b l, cs, h => by
    rw [at_mk] at h
    obtain ⟨_, hb, a, cap, _, _, hl⟩ := h
    rw [okB_mk, decide_eq_true hb, Bool.true_and]
    rcases hl with hl | ⟨b, off, _, _, _, hv⟩
    · rw [List.length_eq_zero_iff.1 hl]; rw [okBs]
    · exact ats_okB l b off hv
theorem ats_okB {w : World} : ∀ (l : List Vl) (b off : Nat), valsAt w l b off → okBs l = true
  | [], _, _, _ => by rw [okBs]
  | x :: l, b, off, h => by
    rw [valsAt_cons] at h
    obtain ⟨⟨cs, _, _, hc⟩, h⟩ := h
    rw [okBs_cons, at_okB x cs hc, ats_okB l b (off + 3) h]; rfl
end
mutual
theorem txt_lt : ∀ (x : Vl), x.okB = true → ∀ c ∈ x.txt, c < 256
  | .mk k b l, h => by
    rw [okB_mk, Bool.and_eq_true, decide_eq_true_eq] at h
    rw [txt_mk]
    refine parts_lt h.1 fun p hp c hc => ?_
    rw [List.mem_map] at hp
    obtain ⟨y, hy, rfl⟩ := hp
    exact txts_lt l h.2 y (List.mem_of_mem_take hy) c hc
theorem txts_lt : ∀ (l : List Vl), okBs l = true → ∀ y ∈ l, ∀ c ∈ y.txt, c < 256
  | [], _, y, hy => by simp at hy
  | x :: l, h, y, hy => by
    rw [okBs_cons, Bool.and_eq_true] at h
    rcases List.mem_cons.1 hy with e | hy
    · rw [e]; exact txt_lt x h.1
    · exact txts_lt l h.2 y hy
end
mutual
theorem flat_lt : ∀ (x : Vl), x.okB = true → ∀ c ∈ x.flat, c < 256
  | .mk k b l, h => by
    rw [okB_mk, Bool.and_eq_true, decide_eq_true_eq] at h
    rw [flat_mk]
    split
    · intro c hc
      rw [List.mem_singleton] at hc
      subst hc
      exact h.1
    · intro c hc
      rw [List.mem_flatMap] at hc
      obtain ⟨y, hy, hc⟩ := hc
      exact flats_lt l h.2 y (List.mem_of_mem_take hy) c hc
theorem flats_lt : ∀ (l : List Vl), okBs l = true → ∀ y ∈ l, ∀ c ∈ y.flat, c < 256
  | [], _, y, hy => by simp at hy
  | x :: l, h, y, hy => by
    rw [okBs_cons, Bool.and_eq_true] at h
    rcases List.mem_cons.1 hy with e | hy
    · rw [e]; exact flat_lt x h.1
    · exact flats_lt l h.2 y hy
end
def TextIs (w : World) (T : List Nat) (e : Ending) (w' : World) : Prop := (∃ t : ByteArray, e = .returned (.string t) ∧ nats t = T) ∧ Below w.heap.size w w'
end V
end Go.Proofs.Ytblgjcolmaidlaa
