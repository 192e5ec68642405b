/- A node loaded out of memory; the walk of law 5's heavy. -/
import Derived.Test.YtaanhijjhllckaaOpenNode
import Derived.Deep.LoopGhost
namespace Go.Proofs.Ytaanhijjhllckaa
set_option maxRecDepth 100000
open Go.RowKit
theorem nodes_get (w : World) (b : Nat) : ∀ (l : List Nd) (off : Nat), nodesAt w l b off → ∀ j (hj : j < l.length), ∃ cs : List Value, cs.length = 9 ∧ (∀ q, q < 9 → w.cell? ⟨b, off + j * 9 + q, none⟩ = cs[q]?) ∧ Nd.at w l[j] cs
  | [], _, _, j, hj => by simp at hj
  | x :: l, off, h, j, hj => by
    rw [nodesAt_cons] at h
    cases j with
    | zero =>
      obtain ⟨cs, h1, h2, h3⟩ := h.1
      exact ⟨cs, h1, fun q hq => by rw [Nat.zero_mul, Nat.add_zero]; exact h2 q hq, h3⟩
    | succ j =>
      obtain ⟨cs, h1, h2, h3⟩ := nodes_get w b l (off + 9) h.2 j (by simpa using hj)
      exact ⟨cs, h1, fun q hq => by rw [show off + (j + 1) * 9 + q = off + 9 + j * 9 + q from by omega]; exact h2 q hq, h3⟩
/-- nine cells lie at b, off -/
def Node9 (w : World) (b off : Nat) (cs : List Value) : Prop := cs.length = 9 ∧ ∀ q, q < 9 → w.cell? ⟨b, off + q, none⟩ = cs[q]?
theorem infoNode : (Try.prog.info? 27).map (·.size) = some 9 := by kernel_rfl
theorem loadNode {w : World} {b off : Nat} {cs : List Value} (h : Node9 w b off cs) : (loadVar 27 ⟨b, off, none⟩).run Try.prog w = .ok (.agg cs.toArray) w := by
  have hl := run_loadCells_list (P := Try.prog) w ⟨b, off, none⟩ cs (fun j v hv => by
    have hj : j < 9 := by have := (List.getElem?_eq_some_iff.mp hv).1; rw [h.1] at this; exact this
    rw [addr_at, h.2 j hj]; exact hv)
  have hi := infoNode
  rw [h.1] at hl
  cases hq : Try.prog.info? 27 with
  | none => simp [hq] at hi
  | some i =>
    have hs : i.size = 9 := by simpa [hq] using hi
    have hagg : (isAgg 27).run Try.prog w = .ok true w := by
      unfold isAgg
      rw [Sem.run_bind, run_underlying Try.underlying27 w]
      rfl
    simp [loadVar, Sem.run_bind, hagg, sizeOf, typeInfo, hq, hs, hl]
theorem wpList_load_node {ops : Array Oper} {rest : List Oper} {o : Oper} {a : Act} {w : World} {Q : Exit → Act → World → Prop} (hgd : o.guard = none) (x : Operand) (ho : o.op = .load 27 x)
    (b off : Nat) (cs : List Value) (hx : a.eval x = .pointer (some ⟨b, off, none⟩)) (hc : Node9 w b off cs)
    (h : wpList Try.prog ops Q rest (a.put o.dst (.agg cs.toArray)) w) : wpList Try.prog ops Q (o :: rest) a w :=
  wpList_plain hgd fun _ hK => by
    unfold Oper.wp execOp
    simp only [ho, hx, Instr.loadAt, Instr.sureAddr, Sem.run_bind, Sem.run_pure, Result.andThen_ok, loadNode hc]
    exact hK _ _ h
/-- more than the law asks of -/
def heavyN : Nat → Nd → Bool
  | 0, _ => true
  | f + 1, .mk _ _ _ _ _ l => decide (40 < l.length) || l.any (heavyN f)
set_option maxHeartbeats 2000000 in
theorem heavy_any : ∀ (f : Nat) (x : Nd) (cs : List Value) (w : World), f < 4611686018427387904 → Nd.at w x cs →
    Calls Try.prog 5 #[.agg cs.toArray, .int .i64 f] w fun e w' => e = .returned (.bool (heavyN f x)) ∧ Below w.heap.size w w'
  | 0, x, cs, w, _, h => by
    cases x with
    | mk k s lo hi n l =>
      rw [at_mk] at h
      obtain ⟨_, _, _, _, a, cap, rfl, _, _⟩ := h
      show Calls _ _ _ _ fun e w' => e = .returned (.bool true) ∧ _
      go_enter Try.func5, Try.ntmps5
      go_wp2_with fail
      go_ret
      exact ⟨rfl, (Below.refl _ _).alloc (Nat.le_refl _) _⟩
  | f + 1, x, cs, w, hf, h => by
    cases x with
    | mk k s lo hi n l =>
      have hat := h
      rw [at_mk] at h
      obtain ⟨_, _, _, _, a, cap, rfl, hmax, hl⟩ := h
      have ih := heavy_any f
      have hd0 : decide (((f + 1 : Nat) : Int) < 1) = false := by simp; omega
      have hsub : ((f + 1 : Nat) : Int) - 1 = (f : Int) := by omega
      generalize hF : ((f + 1 : Nat) : Int) = F at hd0 hsub ⊢
      have hFb : F ≤ 4611686018427387904 := by omega
      have hF0 : 0 ≤ F := by omega
      clear hF
      by_cases h40 : 40 < l.length
      · rw [show heavyN (f + 1) (.mk k s lo hi n l) = true from by rw [heavyN, decide_eq_true h40]; rfl]
        have hd : decide ((40 : Int) < l.length) = true := by simp; omega
        go_enter Try.func5, Try.ntmps5
        go_wp2_with fail
        go_ret
        exact ⟨rfl, (Below.refl _ _).alloc (Nat.le_refl _) _⟩
      · have hd : decide ((40 : Int) < l.length) = false := by simp; omega
        have hR : heavyN (f + 1) (.mk k s lo hi n l) = l.any (heavyN f) := by rw [heavyN, decide_eq_false h40]; rfl
        rw [hR]
        obtain ⟨R, hRR⟩ : ∃ R, R = l.any (heavyN f) := ⟨_, rfl⟩
        rw [← hRR]
        have HR := Lib.hid hRR
        clear hRR hR hat
        go_enter Try.func5, Try.ntmps5
        go_wp2_with fail
        go_loopw [5] (fun i wr => ∃ j : Nat, i = .int .i64 j ∧ j ≤ l.length ∧ (l.take j).any (heavyN f) = false ∧ Below (w.heap.size + 1) (w.alloc (.cells #[.int .i64 k, .int .u64 (word s 0), .int .u64 (word s 1), .int .u64 (word s 2), .int .u64 (word s 3), .int .i64 lo, .int .i64 hi, .int .i64 n, .slice a l.length cap] 27)) wr) (fun i _ => l.length - (intOf i).toNat)
        case atStart => exact ⟨0, rfl, Nat.zero_le _, rfl, Below.refl _ _⟩
        case round =>
          obtain ⟨j, rfl, hj, hno, hr⟩ := hrel
          have cr : ∀ o, wr.cell? ⟨w.heap.size, o, none⟩ = (w.alloc _).cell? ⟨w.heap.size, o, none⟩ := fun o => hr.cell (p := ⟨w.heap.size, o, none⟩) (Nat.lt_succ_self _)
          have hB : Below w.heap.size w wr := ((Below.refl _ _).alloc (Nat.le_refl _) _).trans (hr.mono (Nat.le_succ _))
          have hrs : w.heap.size + 1 ≤ wr.heap.size := by have := hr.size; simp at this; omega
          by_cases hjl : j < l.length
          · have hdj : decide ((j : Int) < l.length) = true := by simp; omega
            rcases hl with hl | ⟨b, off, rfl, hcap, hbw, hnodes⟩
            · omega
            · obtain ⟨cs, hcs, hcell, hchild⟩ := nodes_get w b l off hnodes j hjl
              have h9 : Node9 wr b (off + j * 9) cs := ⟨hcs, fun q hq => by rw [hB.cell (p := ⟨b, off + j * 9 + q, none⟩) hbw]; exact hcell q hq⟩
              have hcall := ih l[j] cs wr (by omega) (Nd.at_below hB (Nat.le_refl _) _ _ hchild)
              have hstep : (l.take (j + 1)).any (heavyN f) = heavyN f l[j] := by
                rw [List.take_succ_eq_append_getElem hjl, List.any_append, hno]; simp
              have hany : heavyN f l[j] = true → l.any (heavyN f) = true := fun h => List.any_eq_true.mpr ⟨l[j], List.getElem_mem hjl, h⟩
              generalize heavyN f l[j] = hv at hcall hstep hany
              clear hcell hchild hnodes ih hno
              cases hv with
              | true =>
                have hRt : R = true := by rw [HR.out]; exact hany rfl
                clear HR hany hstep
                subst hRt
                go_wp2_with (first
                  | (refine wpList_load_node rfl _ rfl b (off + j * 9) cs rfl h9 ?_)
                  | (go_at_call 5; refine hcall.mono ?_; rintro e w3 ⟨rfl, hb3⟩)
                  | fail)
                go_ret
                exact ⟨rfl, hB.trans (hb3.mono hB.size)⟩
              | false =>
                clear hany
                have Hstep := Lib.hid hstep
                clear hstep
                go_wp2_with (first
                  | (refine wpList_load_node rfl _ rfl b (off + j * 9) cs rfl h9 ?_)
                  | (go_at_call 5; refine hcall.mono ?_; rintro e w3 ⟨rfl, hb3⟩)
                  | fail)
                go_roundw
                case rel => exact ⟨j + 1, by go_num, by omega, Hstep.out, hr.trans (hb3.mono hrs)⟩
                case measure => simp [intOf]; omega
          · obtain rfl : j = l.length := by omega
            have hdj : decide ((l.length : Int) < l.length) = false := by simp
            rw [List.take_of_length_le (Nat.le_refl _)] at hno
            have hRf : R = false := by rw [HR.out, hno]
            clear hl ih hno hr HR
            subst hRf
            go_wp2_with fail
            go_ret
            exact ⟨rfl, hB⟩
end Go.Proofs.Ytaanhijjhllckaa
