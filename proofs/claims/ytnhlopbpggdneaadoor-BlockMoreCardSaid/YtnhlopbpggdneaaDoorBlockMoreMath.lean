/- The plain mathematics of one set more: no fewer parts, at most twice as many, each within one elder part; parts of parts are the parts. -/
import Derived.Test.YtnhlopbpggdneaaDoorBlockFacts
namespace Go.Proofs.YtnhlopbpggdneaaDoor
open Go.RowKit

theorem same_snoc (L : List (BitVec 256)) (s : BitVec 256) (a b : Nat) : same (L ++ [s]) a b = (same L a b && (s.getLsbD a == s.getLsbD b)) := by
  unfold same
  rw [List.all_append]
  simp only [List.all_cons, List.all_nil, Bool.and_true]
theorem same_more {L : List (BitVec 256)} {s : BitVec 256} {a b : Nat} (h : same (L ++ [s]) a b = true) : same L a b = true ∧ s.getLsbD a = s.getLsbD b := by
  rw [same_snoc, Bool.and_eq_true, beq_iff_eq] at h; exact h
theorem head_more {L : List (BitVec 256)} (s : BitVec 256) {b : Nat} (h : isHead L b = true) : isHead (L ++ [s]) b = true := by
  rw [isHead_iff] at *
  intro d hd
  by_cases hs : same (L ++ [s]) d b = true
  · have := h d hd
    rw [(same_more hs).1] at this; cases this
  · simpa using hs
theorem nodup_le : ∀ (l m : List Nat), l.Nodup → (∀ x ∈ l, x ∈ m) → l.length ≤ m.length
  | [], _, _, _ => Nat.zero_le _
  | x :: l, m, hn, hs => by
    rw [List.nodup_cons] at hn
    have hx : x ∈ m := hs x (by simp)
    have ih := nodup_le l (m.erase x) hn.2 (fun y hy => (List.mem_erase_of_ne (fun e => hn.1 (by rw [← e]; exact hy))).2 (hs y (by simp [hy])))
    rw [List.length_erase_of_mem hx] at ih
    have : 0 < m.length := List.length_pos_of_mem hx
    simp; omega
theorem headsAll_nodup (L : List (BitVec 256)) : (headsAll L).Nodup := List.Nodup.sublist List.filter_sublist List.nodup_range
theorem parts_more (L : List (BitVec 256)) (s : BitVec 256) : (partsOf L).length ≤ (partsOf (L ++ [s])).length ∧ (partsOf (L ++ [s])).length ≤ 2 * (partsOf L).length := by
  rw [parts_length, parts_length]
  have hsplit : headsAll (L ++ [s]) = (List.range 256).filter (fun x => isHead L x || (isHead (L ++ [s]) x && !isHead L x)) := by
    apply List.filter_congr
    intro x _
    cases h : isHead L x
    · simp
    · rw [head_more s h]; rfl
  have hlen := filter_or_length (List.range 256) (isHead L) (fun x => isHead (L ++ [s]) x && !isHead L x) (fun x _ => by
    rintro ⟨h1, h2⟩
    rw [h1] at h2; simp at h2)
  rw [← hsplit] at hlen
  have hnew : ((List.range 256).filter (fun x => isHead (L ++ [s]) x && !isHead L x)).length ≤ (headsAll L).length := by
    have h1 := nodup_le (((List.range 256).filter (fun x => isHead (L ++ [s]) x && !isHead L x)).map (rep L)) (headsAll L) ?_ ?_
    · rwa [List.length_map] at h1
    · refine List.pairwise_map.2 (List.Pairwise.imp_of_mem ?_ (List.Nodup.sublist List.filter_sublist List.nodup_range))
      intro a b ha hb hab heq
      rw [List.mem_filter, List.mem_range, Bool.and_eq_true] at ha hb
      obtain ⟨ha1, ha2, ha3⟩ := ha
      obtain ⟨hb1, hb2, hb3⟩ := hb
      have key : ∀ x, x < 256 → isHead (L ++ [s]) x = true → (!isHead L x) = true → s.getLsbD x ≠ s.getLsbD (rep L x) := by
        intro x hx h1 h2 h3
        obtain ⟨r1, r2, r3, r4⟩ := rep_facts L x hx
        have hlt : rep L x < x := by
          rcases Nat.lt_or_ge (rep L x) x with h | h
          · exact h
          · have : rep L x = x := by omega
            rw [this] at r3; rw [r3] at h2; simp at h2
        have := (isHead_iff _ x).1 h1 (rep L x) hlt
        rw [same_snoc, same_symm r2, h3] at this
        simp at this
      have ka := key a ha1 ha2 ha3
      have kb := key b hb1 hb2 hb3
      rw [heq] at ka
      have hs : s.getLsbD a = s.getLsbD b := by
        cases h1 : s.getLsbD a <;> cases h2 : s.getLsbD b <;> cases h3 : s.getLsbD (rep L b) <;> simp_all
      have hL : same L a b = true := by
        have h1 := (rep_facts L a ha1).2.1
        have h2 := (rep_facts L b hb1).2.1
        rw [heq] at h1
        exact same_trans h1 (same_symm h2)
      exact hab (heads_eq ha2 hb2 (by rw [same_snoc, hL, hs]; simp))
    · intro y hy
      obtain ⟨x, hx, rfl⟩ := List.mem_map.1 hy
      rw [List.mem_filter, List.mem_range] at hx
      exact (mem_headsTo L 256 _).2 ⟨(rep_facts L x hx.1).1, (rep_facts L x hx.1).2.2.1⟩
  have e : ((List.range 256).filter (isHead L)).length = (headsAll L).length := rfl
  omega
theorem same_parts (L : List (BitVec 256)) (a b : Nat) (ha : a < 256) (hb : b < 256) : same (partsOf L) a b = same L a b := by
  rw [Bool.eq_iff_iff]
  constructor
  · intro h
    obtain ⟨j, hj, e⟩ := place_of L a ha
    have h1 := (part_bit L j a hj ha).2 e
    rw [(same_iff _ a b).1 h _ (by rw [getD_at _ j _ hj]; exact List.getElem_mem _)] at h1
    have h2 := (part_bit L j b hj hb).1 h1
    have ra := (rep_facts L a ha).2.1
    have rb := (rep_facts L b hb).2.1
    rw [← e, h2] at ra
    exact same_trans ra (same_symm rb)
  · intro h
    rw [same_iff]
    intro s hs
    obtain ⟨x, _, rfl⟩ := List.mem_map.1 hs
    rw [alike_bit L x a ha, alike_bit L x b hb, Bool.eq_iff_iff]
    exact ⟨fun h' => same_trans h' h, fun h' => same_trans h' (same_symm h)⟩
theorem parts_parts (L : List (BitVec 256)) : partsOf (partsOf L) = partsOf L := by
  have hh : headsAll (partsOf L) = headsAll L := by
    apply List.filter_congr
    intro b hb
    rw [List.mem_range] at hb
    rw [Bool.eq_iff_iff, isHead_iff, isHead_iff]
    exact ⟨fun h d hd => by rw [← same_parts L d b (by omega) hb]; exact h d hd, fun h d hd => by rw [same_parts L d b (by omega) hb]; exact h d hd⟩
  show (headsAll (partsOf L)).map (alike (partsOf L)) = (headsAll L).map (alike L)
  rw [hh]
  apply List.map_congr_left
  intro h hm
  have h256 := ((mem_headsTo L 256 h).1 hm).1
  apply BitVec.eq_of_getLsbD_eq
  intro c hc
  rw [alike_bit _ _ _ hc, alike_bit _ _ _ hc, same_parts L h c h256 hc]
theorem elems_pos (t : BitVec 256) : (∃ c, c < 256 ∧ t.getLsbD c = true) ↔ 0 < (elems t).length := by
  constructor
  · rintro ⟨c, h1, h2⟩; exact List.length_pos_of_mem ((mem_elems t c).2 ⟨h1, h2⟩)
  · intro h
    obtain ⟨c, hc⟩ := List.exists_mem_of_length_pos h
    exact ⟨c, (mem_elems t c).1 hc⟩
/-- each new part meets just one elder part -/
theorem meets_one (L : List (BitVec 256)) (s : BitVec 256) (i : Nat) (hi : i < (partsOf (L ++ [s])).length) :
    ∃ k0, k0 < (partsOf L).length ∧ ∀ k, k < (partsOf L).length → (0 < (elems ((partsOf (L ++ [s])).getD i 0 &&& (partsOf L).getD k 0)).length ↔ k = k0) := by
  obtain ⟨h1, _⟩ := head_at (L ++ [s]) i hi
  have hp := part_at (L ++ [s]) i hi
  generalize (headsAll (L ++ [s])).getD i 0 = h at *
  obtain ⟨k0, hk0, e0⟩ := place_of L h h1
  refine ⟨k0, hk0, fun k hk => ?_⟩
  rw [← elems_pos, hp]
  constructor
  · rintro ⟨c, hc, hb⟩
    rw [BitVec.getLsbD_and, Bool.and_eq_true, alike_bit _ _ _ hc] at hb
    have e1 := (part_bit L k c hk hc).1 hb.2
    have e2 := rep_same (same_more hb.1).1
    exact heads_nodup L k k0 hk hk0 (by rw [e1, e0, e2])
  · rintro rfl
    refine ⟨h, h1, ?_⟩
    rw [BitVec.getLsbD_and, Bool.and_eq_true, alike_bit _ _ _ h1]
    exact ⟨same_refl _ _, (part_bit L k h hk h1).2 e0⟩
end Go.Proofs.YtnhlopbpggdneaaDoor
