/- A great region's lexical order, asked chunk by chunk: each chunk a closed fact of its own, so that the kernel need not hold the whole. -/
import Derived.Test.YtgdkopcfkoikjaaLater
namespace Go.Proofs.Ytgdkopcfkoikjaa
section
variable {md : Region.Mode} {ops : Array Oper}
/-- k of N are listed -/
def marks (N k : Nat) : Array Bool := (List.replicate k true ++ List.replicate (N - k) false).toArray
theorem marks_set (N k : Nat) (h : k < N) : (marks N k).setIfInBounds k true = marks N (k + 1) := by
  obtain ⟨m, hm⟩ : ∃ m, N - k = m + 1 := ⟨N - k - 1, by omega⟩
  have hm' : N - (k + 1) = m := by omega
  unfold marks
  rw [hm, hm', List.setIfInBounds_toArray, List.set_append_right _ _ (by simp), List.length_replicate, Nat.sub_self, List.replicate_succ, List.set_cons_zero, List.replicate_succ', List.append_assoc]
  rfl
def lexOk (md : Region.Mode) (ops : Array Oper) (N k : Nat) : Bool := (Region.ready md ops (marks N k)).contains k && Region.free md ops (marks N k) k
theorem lexFrom_of (N : Nat) (hE : (Region.ready md ops (marks N N)).isEmpty = true) (h : ∀ k, k < N → lexOk md ops N k = true) : ∀ n k, k + n = N → Region.lexFrom md ops n k (marks N k) = true
  | 0, k, hk => by
    obtain rfl : k = N := by omega
    exact hE
  | n + 1, k, hk => by
    unfold Region.lexFrom
    rw [marks_set N k (by omega), Bool.and_eq_true]
    exact ⟨h k (by omega), lexFrom_of N hE h n (k + 1) (by omega)⟩
theorem lexB_chunks (N : Nat) (h1 : Region.noSelect ops = true) (hN : ops.size = N) (hE : (Region.ready md ops (marks N N)).isEmpty = true) (h : ∀ k, k < N → lexOk md ops N k = true) : Region.lexB md ops = true := by
  unfold Region.lexB
  rw [h1, Bool.true_and, hN]
  have := lexFrom_of (md := md) N hE h N 0 (by omega)
  have e : marks N 0 = Array.replicate N false := by simp [marks]
  rw [e] at this
  exact this
theorem lex_none {N : Nat} : ∀ k, k < 0 → lexOk md ops N k = true := fun k hk => by omega
theorem lex_more {N a : Nat} (m : Nat) (h : ((List.range m).all fun k => lexOk md ops N (a + k)) = true) (h0 : ∀ k, k < a → lexOk md ops N k = true) : ∀ k, k < a + m → lexOk md ops N k = true := by
  intro k hk
  by_cases hka : k < a
  · exact h0 k hka
  · have := List.all_eq_true.1 h (k - a) (List.mem_range.2 (by omega))
    rwa [show a + (k - a) = k from by omega] at this
end
end Go.Proofs.Ytgdkopcfkoikjaa
