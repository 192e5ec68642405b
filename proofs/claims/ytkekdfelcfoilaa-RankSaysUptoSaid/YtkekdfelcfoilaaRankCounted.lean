/- rank's own counted, walked for every value. -/
import Derived.Test.YtkekdfelcfoilaaValOps
namespace Go.Proofs.Ytkekdfelcfoilaa
namespace V
set_option maxRecDepth 100000
open Go.RowKit
theorem rkCounted_all {x : Vl} {cs : List Value} {w : World} (hat : Vl.at w x cs) :
    Calls Try.prog 31 #[.agg cs.toArray] w fun e w' => ∃ v, e = .returned v ∧ (∀ W, Vl.at W x cs → ListAt W (cntd x) v) ∧ Below w.heap.size w w' := by
  obtain ⟨k, z, l⟩ := x
  rw [at_mk] at hat
  obtain ⟨_, _, a, cap, rfl, hmax, hl⟩ := hat
  rw [cntd_mk]
  have hnil : ∀ n, n = 0 → ∀ W, Vl.at W (.mk k z l) [.int .i64 k, .int .u8 z, .slice a l.length cap] → ListAt W (l.take n) (.slice none 0 0) := fun n h _ _ => by subst h; exact ⟨none, 0, rfl, by simp, .inl rfl⟩
  have htake : ∀ n, n ≤ l.length → ∀ W, Vl.at W (.mk k z l) [.int .i64 k, .int .u8 z, .slice a l.length cap] → ListAt W (l.take n) (.slice a n cap) := fun n h W hW => by
    rw [at_mk] at hW
    obtain ⟨_, _, a', cap', he, hmax, hl⟩ := hW
    injection he with _ he
    injection he with _ he
    injection he with he
    injection he with e1 _ e2
    subst e1 e2
    exact listAt_take hmax hl h
  have Htake := Lib.hid htake
  have Hnil := Lib.hid hnil
  have hcap : l.length ≤ cap ∨ l.length = 0 := by rcases hl with hl | ⟨_, _, _, h, _⟩ <;> omega
  have hmx : (l.length : Int) ≤ 9223372036854775807 := by unfold maxLen at hmax; omega
  have hcap2 : l.length ≤ cap := by omega
  clear hl htake hnil hmax hcap
  generalize hn : l.length = n at *
  by_cases h3 : k = 3
  · subst h3
    rw [show cntN 3 n = min 2 n from rfl]
    by_cases h2 : n < 2
    · have hz : decide ((n : Int) < 2) = true := by simp; omega
      have e : min 2 n = n := by omega
      rw [e]
      go_enter Try.func31, Try.ntmps31
      go_wp2_with fail
      all_goals first
        | (go_ret
           exact ⟨_, rfl, Htake.out n (Nat.le_refl _), (Below.refl _ _).alloc (Nat.le_refl _) _⟩)
        | (exfalso; omega)
    · have e : min 2 n = 2 := by omega
      rw [e]
      go_enter Try.func31, Try.ntmps31
      go_wp2_with fail
      all_goals first
        | (exfalso; omega)
        | (go_ret
           exact ⟨_, rfl, Htake.out 2 (by omega), (Below.refl _ _).alloc (Nat.le_refl _) _⟩)
  by_cases h4 : k = 4 ∨ k = 5 ∨ k = 7
  · rw [show cntN k n = min 1 n from by unfold cntN; rw [if_neg h3, if_pos h4]]
    clear h3
    by_cases h2 : n < 1
    · have e : min 1 n = n := by omega
      rw [e]
      rcases h4 with rfl | rfl | rfl <;> (
        go_enter Try.func31, Try.ntmps31
        go_wp2_with fail
        all_goals first
          | (go_ret
             exact ⟨_, rfl, Htake.out n (Nat.le_refl _), (Below.refl _ _).alloc (Nat.le_refl _) _⟩)
          | (exfalso; omega))
    · have e : min 1 n = 1 := by omega
      rw [e]
      rcases h4 with rfl | rfl | rfl <;> (
        go_enter Try.func31, Try.ntmps31
        go_wp2_with fail
        all_goals first
          | (exfalso; omega)
          | (go_ret
             exact ⟨_, rfl, Htake.out 1 (by omega), (Below.refl _ _).alloc (Nat.le_refl _) _⟩))
  by_cases h6 : k = 6
  · subst h6
    rw [show cntN 6 n = n from rfl]
    go_enter Try.func31, Try.ntmps31
    go_wp2_with fail
    go_ret
    exact ⟨_, rfl, Htake.out n (Nat.le_refl _), (Below.refl _ _).alloc (Nat.le_refl _) _⟩
  · rw [show cntN k n = 0 from by unfold cntN; rw [if_neg h3, if_neg h4, if_neg h6]]
    have e3 : (k == 3) = false := by simp [h3]
    have e4 : (k == 4) = false := by simp; omega
    have e5 : (k == 5) = false := by simp; omega
    have e7 : (k == 7) = false := by simp; omega
    have e6 : (k == 6) = false := by simp [h6]
    clear h3 h4 h6
    go_enter Try.func31, Try.ntmps31
    go_wp2_with fail
    go_ret
    exact ⟨_, rfl, Hnil.out 0 rfl, (Below.refl _ _).alloc (Nat.le_refl _) _⟩
end V
end Go.Proofs.Ytkekdfelcfoilaa
