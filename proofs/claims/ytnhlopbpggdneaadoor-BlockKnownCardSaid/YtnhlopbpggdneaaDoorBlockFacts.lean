/- The plain mathematics of partitions, further: each byte lies in one part; what finds it; how many there are. -/
import Derived.Test.YtnhlopbpggdneaaDoorBlockFind
import Derived.Test.YtnhlopbpggdneaaDoorText
namespace Go.Proofs.YtnhlopbpggdneaaDoor
open Go.RowKit

/-- the least byte of b's part -/
def rep (L : List (BitVec 256)) (b : Nat) : Nat := (elems (alike L b)).headD 0
theorem rep_facts (L : List (BitVec 256)) (b : Nat) (hb : b < 256) : rep L b < 256 ∧ same L b (rep L b) = true ∧ isHead L (rep L b) = true ∧ rep L b ≤ b := by
  unfold rep
  cases he : elems (alike L b) with
  | nil =>
    have := elems_nil he b hb
    rw [alike_bit L b b hb, same_refl] at this; cases this
  | cons r l =>
    obtain ⟨h1, h2, h3⟩ := elems_cons he
    rw [alike_bit L b r h1] at h2
    refine ⟨h1, h2, (isHead_iff L r).2 (fun d hd => ?_), ?_⟩
    · have h4 := h3 d hd
      rw [alike_bit L b d (by omega)] at h4
      by_cases hs : same L d r = true
      · rw [same_trans h2 (same_symm hs)] at h4; cases h4
      · simpa using hs
    · show r ≤ b
      rcases Nat.lt_or_ge b r with h | h
      · have h4 := h3 b h
        rw [alike_bit L b b hb, same_refl] at h4; cases h4
      · exact h
theorem alike_same {L : List (BitVec 256)} {a b : Nat} (h : same L a b = true) : alike L a = alike L b := by
  apply BitVec.eq_of_getLsbD_eq
  intro c hc
  rw [alike_bit L a c hc, alike_bit L b c hc, Bool.eq_iff_iff]
  exact ⟨fun h' => same_trans (same_symm h) h', fun h' => same_trans h h'⟩
theorem rep_same {L : List (BitVec 256)} {a b : Nat} (h : same L a b = true) : rep L a = rep L b := by unfold rep; rw [alike_same h]
theorem heads_eq {L : List (BitVec 256)} {a b : Nat} (ha : isHead L a = true) (hb : isHead L b = true) (h : same L a b = true) : a = b := by
  rcases Nat.lt_trichotomy a b with h' | h' | h'
  · have := (isHead_iff L b).1 hb a h'; rw [h] at this; cases this
  · exact h'
  · have := (isHead_iff L a).1 ha b h'; rw [same_symm h] at this; cases this
theorem rep_head {L : List (BitVec 256)} {h : Nat} (hh : isHead L h = true) (h256 : h < 256) : rep L h = h :=
  heads_eq (rep_facts L h h256).2.2.1 hh (same_symm (rep_facts L h h256).2.1)
abbrev headsAll (L : List (BitVec 256)) : List Nat := headsTo L 256
theorem parts_length (L : List (BitVec 256)) : (partsOf L).length = (headsAll L).length := by unfold partsOf partsTo; rw [List.length_map]
theorem parts_le (L : List (BitVec 256)) : (partsOf L).length ≤ 256 := partsTo_len L 256
theorem part_at (L : List (BitVec 256)) (j : Nat) (hj : j < (partsOf L).length) : (partsOf L).getD j 0 = alike L ((headsAll L).getD j 0) := by
  have hj' : j < (headsAll L).length := by rw [← parts_length]; exact hj
  rw [getD_at _ j _ hj, getD_at _ j _ hj']
  simp [partsOf, partsTo]
theorem head_at (L : List (BitVec 256)) (j : Nat) (hj : j < (partsOf L).length) : (headsAll L).getD j 0 < 256 ∧ isHead L ((headsAll L).getD j 0) = true := by
  have hj' : j < (headsAll L).length := by rw [← parts_length]; exact hj
  rw [getD_at _ j _ hj']
  exact (mem_headsTo L 256 _).1 (List.getElem_mem hj')
theorem heads_nodup (L : List (BitVec 256)) (i j : Nat) (hi : i < (partsOf L).length) (hj : j < (partsOf L).length) (h : (headsAll L).getD i 0 = (headsAll L).getD j 0) : i = j := by
  have hp : (headsAll L).Pairwise (· < ·) := List.Pairwise.filter _ List.pairwise_lt_range
  have hi' : i < (headsAll L).length := by rw [← parts_length]; exact hi
  have hj' : j < (headsAll L).length := by rw [← parts_length]; exact hj
  rw [getD_at _ i _ hi', getD_at _ j _ hj'] at h
  rcases Nat.lt_trichotomy i j with h' | h' | h'
  · have := List.pairwise_iff_getElem.1 hp i j hi' hj' h'; omega
  · exact h'
  · have := List.pairwise_iff_getElem.1 hp j i hj' hi' h'; omega
/-- a byte lies in part j just if the part's least byte is its own -/
theorem part_bit (L : List (BitVec 256)) (j b : Nat) (hj : j < (partsOf L).length) (hb : b < 256) : ((partsOf L).getD j 0).getLsbD b = true ↔ (headsAll L).getD j 0 = rep L b := by
  obtain ⟨h1, h2⟩ := head_at L j hj
  rw [part_at L j hj, alike_bit L _ b hb]
  constructor
  · intro h; rw [← rep_same h]; exact (rep_head h2 h1).symm
  · intro h; rw [h]; exact same_symm (rep_facts L b hb).2.1
theorem place_of (L : List (BitVec 256)) (b : Nat) (hb : b < 256) : ∃ j, j < (partsOf L).length ∧ (headsAll L).getD j 0 = rep L b := by
  have hm : rep L b ∈ headsAll L := (mem_headsTo L 256 _).2 ⟨(rep_facts L b hb).1, (rep_facts L b hb).2.2.1⟩
  obtain ⟨j, hj, e⟩ := List.getElem_of_mem hm
  exact ⟨j, by rw [parts_length]; exact hj, by rw [getD_at _ j _ hj]; exact e⟩
theorem find_part (L : List (BitVec 256)) (b : Nat) (hb : b < 256) : findOk (partsOf L) b = true ∧ findAt (partsOf L) b < (partsOf L).length ∧ (headsAll L).getD (findAt (partsOf L) b) 0 = rep L b ∧
    headOf (partsOf L) b = rep L b := by
  obtain ⟨j, hj, e⟩ := place_of L b hb
  obtain ⟨h1, h2⟩ := find_here (M := partsOf L) (b := b) (k := j) hj ((part_bit L j b hj hb).2 e) (fun i hi => by
    by_cases hx : ((partsOf L).getD i 0).getLsbD b = true
    · have := (part_bit L i b (by omega) hb).1 hx
      have := heads_nodup L i j (by omega) hj (by rw [this, e])
      omega
    · simpa using hx)
  refine ⟨h1, by rw [h2]; exact hj, by rw [h2]; exact e, ?_⟩
  unfold headOf
  rw [if_pos h1, h2, part_at L j hj, e, ← alike_same (rep_facts L b hb).2.1]
  rfl
theorem find_same (L : List (BitVec 256)) (a b : Nat) (ha : a < 256) (hb : b < 256) : findAt (partsOf L) a = findAt (partsOf L) b ↔ same L a b = true := by
  obtain ⟨_, a2, a3, _⟩ := find_part L a ha
  obtain ⟨_, b2, b3, _⟩ := find_part L b hb
  constructor
  · intro h
    rw [h, b3] at a3
    have h1 := (rep_facts L a ha).2.1
    have h2 := (rep_facts L b hb).2.1
    rw [← a3] at h1
    exact same_trans h1 (same_symm h2)
  · intro h
    exact heads_nodup L _ _ a2 b2 (by rw [a3, b3, rep_same h])
/-! how many bytes: the parts are apart and hold all -/
def unionOf (M : List (BitVec 256)) : BitVec 256 := M.foldl (· ||| ·) 0
def sizesOf (M : List (BitVec 256)) : Nat := (M.map fun s => (elems s).length).sum
theorem unionOf_snoc (M : List (BitVec 256)) (s : BitVec 256) : unionOf (M ++ [s]) = unionOf M ||| s := by simp [unionOf]
theorem sizesOf_snoc (M : List (BitVec 256)) (s : BitVec 256) : sizesOf (M ++ [s]) = sizesOf M + (elems s).length := by simp [sizesOf]
theorem unionOf_bit (M : List (BitVec 256)) (b : Nat) : (unionOf M).getLsbD b = M.any fun s => s.getLsbD b := by
  have h : ∀ (M : List (BitVec 256)) (s : BitVec 256), (M.foldl (· ||| ·) s).getLsbD b = (s.getLsbD b || M.any fun s => s.getLsbD b) := by
    intro M
    induction M with
    | nil => intro s; simp
    | cons x M ih => intro s; rw [List.foldl_cons, ih, BitVec.getLsbD_or, List.any_cons, Bool.or_assoc]
  have := h M 0
  simpa [unionOf] using this
theorem filter_or_length (l : List Nat) (p q : Nat → Bool) (h : ∀ x ∈ l, ¬ (p x = true ∧ q x = true)) : (l.filter fun x => p x || q x).length = (l.filter p).length + (l.filter q).length := by
  induction l with
  | nil => rfl
  | cons x l ih =>
    have ih' := ih (fun y hy => h y (by simp [hy]))
    have hx := h x (by simp)
    cases hp : p x <;> cases hq : q x <;> simp [hp, hq] at hx ih' ⊢ <;> omega
theorem elems_or (s t : BitVec 256) (h : ∀ b, b < 256 → ¬ (s.getLsbD b = true ∧ t.getLsbD b = true)) : (elems (s ||| t)).length = (elems s).length + (elems t).length := by
  unfold elems
  rw [← filter_or_length _ _ _ (fun x hx => h x (List.mem_range.1 hx))]
  congr 1
  apply List.filter_congr
  intro b _
  rw [BitVec.getLsbD_or]
theorem elems_zero : elems (0 : BitVec 256) = [] := by decide +kernel
/-- the first k parts: what they hold, counted -/
theorem sizes_union (L : List (BitVec 256)) (k : Nat) (hk : k ≤ (partsOf L).length) : sizesOf ((partsOf L).take k) = (elems (unionOf ((partsOf L).take k))).length := by
  induction k with
  | zero => rw [List.take_zero]; show 0 = (elems (0 : BitVec 256)).length; rw [elems_zero]; rfl
  | succ k ih =>
    rw [List.take_succ_eq_append_getElem (by omega), sizesOf_snoc, unionOf_snoc, ih (by omega), elems_or]
    rintro b hb ⟨h1, h2⟩
    rw [← getD_at _ k 0 (by omega)] at h2
    have e2 := (part_bit L k b (by omega) hb).1 h2
    rw [unionOf_bit, List.any_eq_true] at h1
    obtain ⟨s, hs, hsb⟩ := h1
    obtain ⟨i, hi, rfl⟩ := List.getElem_of_mem hs
    rw [List.length_take] at hi
    have hik : i < k := by omega
    rw [List.getElem_take, ← getD_at _ i 0 (by omega)] at hsb
    have e1 := (part_bit L i b (by omega) hb).1 hsb
    have := heads_nodup L i k (by omega) (by omega) (by rw [e1, e2])
    omega
theorem union_all (L : List (BitVec 256)) : unionOf (partsOf L) = BitVec.allOnes 256 := by
  apply BitVec.eq_of_getLsbD_eq
  intro b hb
  rw [unionOf_bit, ones_bit b hb]
  exact (find_part L b hb).1
theorem elems_all : (elems (BitVec.allOnes 256)).length = 256 := by decide +kernel
theorem sizes_all (L : List (BitVec 256)) : sizesOf (partsOf L) = 256 := by
  have := sizes_union L (partsOf L).length (Nat.le_refl _)
  rw [List.take_length] at this
  rw [this, union_all, elems_all]
theorem sizes_le (L : List (BitVec 256)) (k : Nat) (hk : k ≤ (partsOf L).length) : sizesOf ((partsOf L).take k) ≤ 256 := by
  rw [sizes_union L k hk]; exact elems_length_le _
/-! the words that no set of the first n tells apart -/
theorem same_take_succ (L : List (BitVec 256)) (n a b : Nat) (hn : n < L.length) : same (L.take (n + 1)) a b = (same (L.take n) a b && ((L.getD n 0).getLsbD a == (L.getD n 0).getLsbD b)) := by
  rw [getD_at L n 0 hn, List.take_succ_eq_append_getElem hn]
  unfold same
  rw [List.all_append]
  simp only [List.all_cons, List.all_nil, Bool.and_true]
theorem listAt_of_row {f : FuncId} {args : Array Value} {w : World} {l : List Nat} (h : Calls Tryd.prog f args w (ByteRow w l)) (hlt : ∀ x ∈ l, x < 256) : Calls Tryd.prog f args w (ListAt w l) := by
  refine h.mono ?_
  rintro e w' ⟨v, rfl, hown, hb⟩
  obtain ⟨a, c, rfl⟩ := owns_form hown
  exact ⟨a, c, rfl, hb, fun w2 h2 => bytesAt_of_owns hown hlt h2⟩
theorem heads_map (L : List (BitVec 256)) (l : List Nat) (hl : ∀ x ∈ l, x < 256) : l.map (headOf (partsOf L)) = l.map (rep L) := by
  apply List.map_congr_left
  intro x hx
  exact (find_part L x (hl x hx)).2.2.2
theorem rep_twice (L : List (BitVec 256)) (l : List Nat) (hl : ∀ x ∈ l, x < 256) : (l.map (rep L)).map (rep L) = l.map (rep L) := by
  rw [List.map_map]
  apply List.map_congr_left
  intro x hx
  obtain ⟨h1, _, h3, _⟩ := rep_facts L x (hl x hx)
  exact rep_head h3 h1
theorem rep_lt (L : List (BitVec 256)) (l : List Nat) (hl : ∀ x ∈ l, x < 256) : ∀ y ∈ l.map (rep L), y < 256 := by
  intro y hy
  obtain ⟨x, hx, rfl⟩ := List.mem_map.1 hy
  exact (rep_facts L x (hl x hx)).1
theorem rep_has (L : List (BitVec 256)) (k x : Nat) (hk : k < L.length) (hx : x < 256) : (L.getD k 0).getLsbD (rep L x) = (L.getD k 0).getLsbD x := by
  have := (same_iff L x (rep L x)).1 (rep_facts L x hx).2.1 (L.getD k 0) (by rw [getD_at L k 0 hk]; exact List.getElem_mem _)
  exact this.symm
end Go.Proofs.YtnhlopbpggdneaaDoor
