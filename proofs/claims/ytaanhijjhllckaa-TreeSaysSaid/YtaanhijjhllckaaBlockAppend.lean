/- append of a list of sets onto one that the call owns. -/
import Derived.Test.YtaanhijjhllckaaBlockMem
namespace Go.Proofs.Ytaanhijjhllckaa
set_option maxRecDepth 100000
open Go.RowKit

theorem run_append_none {P : Program} (w : World) (base : Nat) (t ty e : TypeId) (i : TypeInfo) (size c : Nat) (ht : P.underlying t = some (.slice e)) (hi : P.info? e = some i)
    (v : Value) (n : Nat) (xs : List Value) (hown : w.ownsRow base e size v n xs) :
    (Builtin.append_ #[t, t] ty #[v, .slice none 0 c]).run P w = .ok v w := by
  rcases hown.2 with ⟨rfl, rfl⟩ | ⟨g, cap, cur, rfl, _, _, hnc, _⟩
  · simp [Builtin.append_, run_underlying ht, sizeOf, typeInfo, hi, Builtin.lenOf, Builtin.firstCells]
  · simp [Builtin.append_, run_underlying ht, sizeOf, typeInfo, hi, Builtin.lenOf, Builtin.firstCells, hnc, storeCells]
theorem grownBy_refl (w : World) (row : Option Nat) : w.grownBy w row := ⟨rfl, rfl, rfl, Nat.le_refl _, fun _ _ _ => rfl⟩
theorem setCells_one_cell (L : List (BitVec 256)) : ∀ u ∈ setCells L, u.oneCell' = true := by
  intro u hu
  unfold setCells at hu
  obtain ⟨s, _, hs⟩ := List.mem_flatMap.1 hu
  simp at hs
  rcases hs with rfl | rfl | rfl | rfl <;> rfl
theorem wp_append_sets {w : World} {o : Oper} {a : Act} {K : Act → World → Prop} {Q : Exit → Act → World → Prop} (s x : Operand)
    (ho : o.op = .call { callee := .builtin .append, args := #[s, x], argTypes := #[41, 41] }) (base : Nat)
    (v : Value) (M : List (BitVec 256)) (hs : a.eval s = v) (hown : w.ownsRow base 24 4 v M.length (setCells M))
    (pa : Option Addr) (n c : Nat) (L : List (BitVec 256)) (hx : a.eval x = .slice pa n c) (hL : SetsAt w pa n c L) (hlen : M.length + n ≤ 4096) (hbase : base ≤ w.heap.size)
    (h : ∀ v' w', w'.ownsRow base 24 4 v' (M ++ L).length (setCells (M ++ L)) → w.grownBy w' v.ownBlock → K (a.put o.dst v') w') : o.wp Try.prog a w K Q := by
  obtain ⟨i0, hi, hz0, hz1, hz2⟩ := info_parts info_set
  obtain ⟨hn, hm, hc⟩ := hL
  cases pa with
  | none =>
    have h0 : n = 0 := by
      rcases hc with h | ⟨b, off, h, _⟩
      · exact h
      · cases h
    subst h0
    have hLn : L = [] := List.length_eq_zero_iff.1 hn.symm
    subst hLn
    rw [List.append_nil] at h
    unfold Oper.wp execOp
    simp only [ho, resolve, invoke, builtin, Sem.run_bind, Sem.run_pure, Result.andThen_ok, List.map_toArray, List.map_cons, List.map_nil, hs, hx, run_append_none (P := Try.prog) w base _ o.type _ i0 4 c Try.underlying41 hi v _ _ hown]
    exact h v w hown (grownBy_refl _ _)
  | some ad =>
    refine wp_append_own w s x _ ho base 24 i0 (.agg #[.int .u64 0, .int .u64 0, .int .u64 0, .int .u64 0]) 4 32 Try.underlying41 hi hz0 hz1 hz2 rfl (by decide) v _ _ hs hown ad n c (setCells L) hx (by rw [setCells_length, hn]) ?_ (setCells_one_cell L) (by unfold maxLen; omega) (by omega) hbase ?_
    · intro j u hj
      rcases hc with h0 | ⟨b, off, hb, _, hblk, hc4⟩
      · have : L = [] := List.length_eq_zero_iff.1 (by omega)
        subst this
        simp [setCells] at hj
      · cases hb
        have hjl : j < L.length * 4 := by rw [← setCells_length]; exact (List.getElem?_eq_some_iff.1 hj).1
        have h4 := hc4 (j / 4) (by omega) (j % 4) (Nat.mod_lt _ (by decide))
        have he := setCells_get L (j / 4) (by omega) (j % 4) (Nat.mod_lt _ (by decide))
        have hjj : j / 4 * 4 + j % 4 = j := by omega
        rw [hjj] at he
        rw [addr_at]
        have hoff : off + j / 4 * 4 + j % 4 = off + j := by omega
        rw [hoff] at h4
        rw [h4, ← he, hj]
    · intro v' w' h1 h2 _
      refine h v' w' ?_ h2
      rw [List.length_append, setCells_append, ← hn]; exact h1
end Go.Proofs.Ytaanhijjhllckaa
