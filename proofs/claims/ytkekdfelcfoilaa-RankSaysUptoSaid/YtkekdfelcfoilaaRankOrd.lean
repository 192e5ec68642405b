/- The POSIX order is total: of values of no more than so many parts, where no length wraps. -/
import Derived.Test.YtkekdfelcfoilaaRankMath
namespace Go.Proofs.Ytkekdfelcfoilaa
namespace V
set_option maxRecDepth 100000
open Go.RowKit
/-- no length wraps -/
abbrev Small (x : Vl) : Prop := x.count ≤ 1048576
theorem small_cntd {x u : Vl} (h : Small x) (hu : u ∈ cntd x) : Small u := by
  have h1 := counts_mem hu
  have h2 := cntd_counts x
  have h3 : x.count ≤ 1048576 := h
  show u.count ≤ 1048576
  omega
theorem sum_bound : ∀ (l : List Vl), (∀ x ∈ l, 0 ≤ x.len ∧ x.len ≤ x.count) → 0 ≤ (l.map Vl.len).sum ∧ (l.map Vl.len).sum ≤ counts l
  | [], _ => by rw [counts_nil]; simp
  | x :: l, h => by
    have h1 := h x (by simp)
    have h2 := sum_bound l fun y hy => h y (by simp [hy])
    rw [List.map_cons, List.sum_cons, counts_cons]
    omega
theorem len_bound : ∀ (n : Nat) (x : Vl), x.count ≤ n → n < 4611686018427387904 → 0 ≤ x.len ∧ x.len ≤ x.count
  | 0, x, h, _ => absurd (Vl.count_pos x) (by omega)
  | n + 1, x, h, hn => by
    have hc := Vl.count_pos x
    by_cases h2 : x.kind = 2
    · rw [len_two h2]; omega
    · have h3 := cntd_counts x
      have h4 := sum_bound (cntd x) fun u hu => len_bound n u (by have := counts_mem hu; omega) (by omega)
      rw [len_cntd h2, lens_eq]
      unfold wrap64; omega
theorem len_small {x : Vl} (h : Small x) : 0 ≤ x.len ∧ x.len ≤ 1048576 := by
  have h1 : x.count ≤ 1048576 := h
  have h2 := len_bound x.count x (Nat.le_refl _) (by omega)
  omega
theorem longer_small {x y : Vl} (hx : Small x) (hy : Small y) : longer x y = x.len - y.len := by
  have h1 := len_small hx
  have h2 := len_small hy
  unfold longer wrap64; omega
/-- the length is that of the bytes -/
theorem sum_flat : ∀ (l : List Vl), (∀ x ∈ l, x.len = (x.flat.length : Int)) → (l.map Vl.len).sum = ((l.flatMap Vl.flat).length : Int)
  | [], _ => by simp
  | x :: l, h => by
    rw [List.map_cons, List.sum_cons, List.flatMap_cons, List.length_append, h x (by simp), sum_flat l fun y hy => h y (by simp [hy])]
    omega
theorem len_bytes : ∀ (n : Nat) (x : Vl), x.count ≤ n → n < 4611686018427387904 → x.len = (x.flat.length : Int)
  | 0, x, h, _ => absurd (Vl.count_pos x) (by omega)
  | n + 1, x, h, hn => by
    have h3 := cntd_counts x
    have hb := sum_bound (cntd x) fun u hu => len_bound n u (by have := counts_mem hu; omega) (by omega)
    have hs := sum_flat (cntd x) fun u hu => len_bytes n u (by have := counts_mem hu; omega) (by omega)
    cases x with
    | mk k z l =>
      rw [len_mk, flat_mk]
      split
      · rfl
      · rw [lens_eq, ← cntd_mk k z l, ← hs]
        unfold wrap64; omega
/-! turned round -/
theorem orI_neg (a b : Int) : orI (-a) (-b) = -orI a b := by unfold orI; split <;> split <;> omega
theorem ordL_flip : ∀ (l m : List Vl), (∀ x ∈ l, ∀ y ∈ m, ord y x = -ord x y) → ordL m l = -ordL l m
  | [], [], _ => rfl
  | [], _ :: _, _ => rfl
  | _ :: _, [], _ => rfl
  | x :: l, y :: m, h => by
    rw [ordL_cons, ordL_cons, ← orI_neg, h x (by simp) y (by simp), ordL_flip l m fun a ha b hb => h a (by simp [ha]) b (by simp [hb])]
theorem ord_flip : ∀ (n : Nat) (x y : Vl), x.count ≤ n → Small x → Small y → ord y x = -ord x y
  | 0, x, _, h, _, _ => absurd (Vl.count_pos x) (by omega)
  | n + 1, x, y, h, hx, hy => by
    rw [ord_eq, ord_eq, longer_small hx hy, longer_small hy hx, ← orI_neg]
    congr 1
    · rw [← cmpI_flip]; unfold cmpI; split <;> split <;> (try split) <;> (try split) <;> omega
    · unfold part
      by_cases hk : x.kind = y.kind
      · rw [if_pos hk, if_pos hk.symm, ← hk]
        split
        · exact cmpI_flip _ _
        · refine ordL_flip _ _ fun a ha b hb => ord_flip n a b ?_ (small_cntd hx ha) (small_cntd hy hb)
          have := counts_mem ha
          have := cntd_counts x
          omega
      · rw [if_neg hk, if_neg (Ne.symm hk)]
        exact cmpI_flip _ _
/-! through a third one -/
structure Three (x y z : Int) : Prop where
  le : 0 < x ∨ 0 < y ∨ z ≤ 0
  lt1 : 0 ≤ x ∨ 0 < y ∨ z < 0
  lt2 : 0 < x ∨ 0 ≤ y ∨ z < 0
  eq : x = 0 → y = 0 → z = 0
theorem three_or {x1 y1 z1 x2 y2 z2 : Int} (h : Three x1 y1 z1) (h2 : x1 = 0 → y1 = 0 → Three x2 y2 z2) : Three (orI x1 x2) (orI y1 y2) (orI z1 z2) := by
  obtain ⟨a, b, c, d⟩ := h
  by_cases h3 : x1 = 0
  · by_cases h4 : y1 = 0
    · obtain ⟨a', b', c', d'⟩ := h2 h3 h4
      have h5 := d h3 h4
      subst h3 h4 h5
      exact ⟨a', b', c', d'⟩
    · subst h3
      rw [orI_zero, orI_ne h4]
      have : 0 < y1 ∨ z1 < 0 ∧ orI z1 z2 = z1 := by
        rcases (by omega : 0 < y1 ∨ z1 < 0) with h | h
        · exact .inl h
        · exact .inr ⟨h, orI_ne (by omega)⟩
      rcases this with h | ⟨h, e⟩
      · exact ⟨by omega, by omega, by omega, by omega⟩
      · rw [e]; exact ⟨by omega, by omega, by omega, by omega⟩
  · rw [orI_ne h3]
    have : 0 < x1 ∨ 0 < y1 ∨ z1 < 0 ∧ orI z1 z2 = z1 := by
      rcases (by omega : 0 < x1 ∨ 0 < y1 ∨ z1 < 0) with h | h | h
      · exact .inl h
      · exact .inr (.inl h)
      · exact .inr (.inr ⟨h, orI_ne (by omega)⟩)
    rcases this with h | h | ⟨h, e⟩
    · exact ⟨by omega, by omega, by omega, by omega⟩
    · rw [orI_ne (a := y1) (by omega)]; exact ⟨by omega, by omega, by omega, by omega⟩
    · rw [e]; exact ⟨by omega, by omega, by omega, by omega⟩
theorem three_cmp (a b c : Int) : Three (cmpI a b) (cmpI b c) (cmpI a c) := by
  unfold cmpI
  constructor <;> (split <;> (try split) <;> (try split) <;> (try split) <;> (try split) <;> (try split) <;> omega)
theorem three_long {x y z : Vl} (hx : Small x) (hy : Small y) (hz : Small z) : Three (cmpI 0 (longer x y)) (cmpI 0 (longer y z)) (cmpI 0 (longer x z)) := by
  rw [longer_small hx hy, longer_small hy hz, longer_small hx hz]
  have h : ∀ a b : Int, cmpI 0 (a - b) = cmpI b a := fun a b => by unfold cmpI; split <;> split <;> (try split) <;> (try split) <;> omega
  rw [h, h, h]
  have h := three_cmp x.len y.len z.len
  rw [cmpI_flip x.len y.len, cmpI_flip y.len z.len, cmpI_flip x.len z.len]
  have h2 := three_cmp z.len y.len x.len
  obtain ⟨a, b, c, d⟩ := h2
  rw [cmpI_flip y.len z.len, cmpI_flip x.len y.len, cmpI_flip x.len z.len] at *
  exact ⟨by omega, by omega, by omega, fun h1 h2 => d h2 h1⟩
theorem ordL_three : ∀ (l m n : List Vl), (∀ x ∈ l, ∀ y ∈ m, ∀ z ∈ n, Three (ord x y) (ord y z) (ord x z)) → Three (ordL l m) (ordL m n) (ordL l n)
  | [], [], [], _ => by rw [show ordL [] [] = 0 from rfl]; exact ⟨by decide, by decide, by decide, by decide⟩
  | [], [], z :: n, _ => by rw [show ordL [] [] = 0 from rfl, show ordL [] (z :: n) = 1 from rfl]; exact ⟨by decide, by decide, by decide, by decide⟩
  | [], y :: m, [], _ => by rw [show ordL [] (y :: m) = 1 from rfl, show ordL (y :: m) [] = -1 from rfl, show ordL [] [] = 0 from rfl]; exact ⟨by decide, by decide, by decide, by decide⟩
  | [], y :: m, z :: n, _ => by rw [show ordL [] (y :: m) = 1 from rfl, show ordL [] (z :: n) = 1 from rfl]; exact ⟨by omega, by omega, by omega, by omega⟩
  | x :: l, [], [], _ => by rw [show ordL (x :: l) [] = -1 from rfl, show ordL [] [] = 0 from rfl]; exact ⟨by decide, by decide, by decide, by decide⟩
  | x :: l, [], z :: n, _ => by rw [show ordL (x :: l) [] = -1 from rfl, show ordL [] (z :: n) = 1 from rfl]; exact ⟨by omega, by omega, by omega, by omega⟩
  | x :: l, y :: m, [], _ => by rw [show ordL (y :: m) [] = -1 from rfl, show ordL (x :: l) [] = -1 from rfl]; exact ⟨by omega, by omega, by omega, by omega⟩
  | x :: l, y :: m, z :: n, h => by
    rw [ordL_cons, ordL_cons, ordL_cons]
    exact three_or (h x (by simp) y (by simp) z (by simp)) fun _ _ => ordL_three l m n fun a ha b hb c hc => h a (by simp [ha]) b (by simp [hb]) c (by simp [hc])
theorem part_or (x y : Vl) : part x y = orI (cmpI x.kind y.kind) (if x.kind = 2 then cmpI x.byte y.byte else ordL (cntd x) (cntd y)) := by
  unfold part
  by_cases hk : x.kind = y.kind
  · rw [if_pos hk, ← hk, cmpI_self, orI_zero]
  · rw [if_neg hk, orI_ne fun h => hk (cmpI_zero h)]
theorem ord_three : ∀ (n : Nat) (x y z : Vl), x.count ≤ n → Small x → Small y → Small z → Three (ord x y) (ord y z) (ord x z)
  | 0, x, _, _, h, _, _, _ => absurd (Vl.count_pos x) (by omega)
  | n + 1, x, y, z, h, hx, hy, hz => by
    rw [ord_eq, ord_eq, ord_eq]
    refine three_or (three_long hx hy hz) fun _ _ => ?_
    rw [part_or, part_or, part_or]
    refine three_or (three_cmp _ _ _) fun h1 h2 => ?_
    have e1 := cmpI_zero h1
    rw [← e1]
    split
    · exact three_cmp _ _ _
    · refine ordL_three _ _ _ fun a ha b hb c hc => ord_three n a b c ?_ (small_cntd hx ha) (small_cntd hy hb) (small_cntd hz hc)
      have := counts_mem ha
      have := cntd_counts x
      omega
theorem ord_turn {x y : Vl} (hx : Small x) (hy : Small y) : ord y x = -ord x y := ord_flip _ x y (Nat.le_refl _) hx hy
theorem ord_third {x y z : Vl} (hx : Small x) (hy : Small y) (hz : Small z) : Three (ord x y) (ord y z) (ord x z) := ord_three _ x y z (Nat.le_refl _) hx hy hz
/-! the best of a list -/
/-- none is ahead of the one at i, and those in front of it are not as good -/
def Best (l : List Vl) (i : Nat) : Prop := ∃ x, l[i]? = some x ∧ (∀ (j : Nat) (y : Vl), l[j]? = some y → 0 ≤ ord y x) ∧ ∀ (j : Nat) (y : Vl), j < i → l[j]? = some y → 0 < ord y x
theorem best_one (x : Vl) : Best [x] 0 := by
  refine ⟨x, rfl, fun j y h => ?_, fun j y h => by omega⟩
  cases j with
  | zero => cases h; rw [ord_self]; decide
  | succ j => cases h
theorem best_lt {l : List Vl} {i : Nat} (h : Best l i) : i < l.length := by
  obtain ⟨x, h1, _⟩ := h
  exact (List.getElem?_eq_some_iff.1 h1).1
theorem best_unique {l : List Vl} (hs : ∀ x ∈ l, Small x) {i j : Nat} (hi : Best l i) (hj : Best l j) : i = j := by
  obtain ⟨x, hx, hx1, hx2⟩ := hi
  obtain ⟨y, hy, hy1, hy2⟩ := hj
  have h1 := hx1 j y hy
  have h2 := hy1 i x hx
  have h3 := ord_turn (hs x (List.mem_of_getElem? hx)) (hs y (List.mem_of_getElem? hy))
  rcases Nat.lt_trichotomy i j with h | h | h
  · have := hy2 i x h hx; omega
  · exact h
  · have := hx2 j y h hy; omega
/-- the better one of two halves -/
theorem best_join {l : List Vl} (hs : ∀ x ∈ l, Small x) {n i j : Nat} (hi : Best (l.take n) i) (hj : Best (l.drop n) j) {x y : Vl} (hx : l[i]? = some x) (hy : l[n + j]? = some y) :
    Best l (if ord y x < 0 then n + j else i) := by
  have hil : i < n := by have := best_lt hi; rw [List.length_take] at this; omega
  obtain ⟨x', hx0, hx1, hx2⟩ := hi
  obtain ⟨y', hy0, hy1, hy2⟩ := hj
  have ex : x' = x := by rw [List.getElem?_take, if_pos hil, hx] at hx0; exact (Option.some.inj hx0).symm
  have ey : y' = y := by rw [List.getElem?_drop, hy] at hy0; exact (Option.some.inj hy0).symm
  subst ex ey
  have sx := hs x' (List.mem_of_getElem? hx)
  have sy := hs y' (List.mem_of_getElem? hy)
  have hside : ∀ (k : Nat) (z : Vl), l[k]? = some z → (k < n ∧ 0 ≤ ord z x' ∧ (k < i → 0 < ord z x')) ∨ (n ≤ k ∧ 0 ≤ ord z y' ∧ (k < n + j → 0 < ord z y')) := fun k z hz => by
    by_cases hk : k < n
    · have h1 : (l.take n)[k]? = some z := by rw [List.getElem?_take, if_pos hk, hz]
      exact .inl ⟨hk, hx1 k z h1, fun h => hx2 k z h h1⟩
    · have h1 : (l.drop n)[k - n]? = some z := by rw [List.getElem?_drop, show n + (k - n) = k from by omega, hz]
      exact .inr ⟨by omega, hy1 _ z h1, fun h => hy2 _ z (by omega) h1⟩
  split
  · rename_i hlt
    refine ⟨y', hy, fun k z hz => ?_, fun k z hk hz => ?_⟩
    · have sz := hs z (List.mem_of_getElem? hz)
      rcases hside k z hz with ⟨_, h1, _⟩ | ⟨_, h1, _⟩
      · obtain ⟨a, b, c, d⟩ := ord_third sy sx sz
        obtain ⟨a', b', c', d'⟩ := ord_third sx sz sy
        have e1 := ord_turn sz sy
        have e2 := ord_turn sz sx
        have e3 := ord_turn sx sy
        omega
      · exact h1
    · have sz := hs z (List.mem_of_getElem? hz)
      rcases hside k z hz with ⟨_, h1, _⟩ | ⟨_, _, h1⟩
      · obtain ⟨a, b, c, d⟩ := ord_third sy sx sz
        have e1 := ord_turn sz sy
        have e2 := ord_turn sz sx
        omega
      · exact h1 hk
  · rename_i hge
    refine ⟨x', hx, fun k z hz => ?_, fun k z hk hz => ?_⟩
    · have sz := hs z (List.mem_of_getElem? hz)
      rcases hside k z hz with ⟨_, h1, _⟩ | ⟨_, h1, _⟩
      · exact h1
      · obtain ⟨a, b, c, d⟩ := ord_third sz sy sx
        obtain ⟨a', b', c', d'⟩ := ord_third sx sy sz
        have e1 := ord_turn sz sx
        have e2 := ord_turn sz sy
        have e3 := ord_turn sx sy
        omega
    · rcases hside k z hz with ⟨_, _, h1⟩ | ⟨h2, _, _⟩
      · exact h1 hk
      · omega
end V
end Go.Proofs.Ytkekdfelcfoilaa
