/- A core loaded out of memory; the walk of law 8's big. -/
import Derived.Test.YtonhmjfopidacaaDoorOpenCore
import Derived.Test.YtonhmjfopidacaaDoorTreeHeavy
import Derived.Deep.LoopGhost
namespace Go.Proofs.YtonhmjfopidacaaDoor
namespace K
set_option maxRecDepth 100000
open Go.RowKit
theorem nodes_get (w : World) (b : Nat) : ∀ (l : List Cr) (off : Nat), coresAt w l b off → ∀ j (hj : j < l.length), ∃ cs : List Value, cs.length = 7 ∧ (∀ q, q < 7 → w.cell? ⟨b, off + j * 7 + q, none⟩ = cs[q]?) ∧ Cr.at w l[j] cs
  | [], _, _, j, hj => by simp at hj
  | x :: l, off, h, j, hj => by
    rw [coresAt_cons] at h
    cases j with
    | zero =>
      obtain ⟨cs, h1, h2, h3⟩ := h.1
      exact ⟨cs, h1, fun q hq => by rw [Nat.zero_mul, Nat.add_zero]; exact h2 q hq, h3⟩
    | succ j =>
      obtain ⟨cs, h1, h2, h3⟩ := nodes_get w b l (off + 7) h.2 j (by simpa using hj)
      exact ⟨cs, h1, fun q hq => by rw [show off + (j + 1) * 7 + q = off + 7 + j * 7 + q from by omega]; exact h2 q hq, h3⟩
/-- nine cells lie at b, off -/
def Core7 (w : World) (b off : Nat) (cs : List Value) : Prop := cs.length = 7 ∧ ∀ q, q < 7 → w.cell? ⟨b, off + q, none⟩ = cs[q]?
theorem infoCore : (Tryd.prog.info? 28).map (·.size) = some 7 := by kernel_rfl
theorem loadCore {w : World} {b off : Nat} {cs : List Value} (h : Core7 w b off cs) : (loadVar 28 ⟨b, off, none⟩).run Tryd.prog w = .ok (.agg cs.toArray) w := by
  have hl := run_loadCells_list (P := Tryd.prog) w ⟨b, off, none⟩ cs (fun j v hv => by
    have hj : j < 7 := by have := (List.getElem?_eq_some_iff.mp hv).1; rw [h.1] at this; exact this
    rw [addr_at, h.2 j hj]; exact hv)
  have hi := infoCore
  rw [h.1] at hl
  cases hq : Tryd.prog.info? 28 with
  | none => simp [hq] at hi
  | some i =>
    have hs : i.size = 7 := by simpa [hq] using hi
    have hagg : (isAgg 28).run Tryd.prog w = .ok true w := by
      unfold isAgg
      rw [Sem.run_bind, run_underlying Tryd.underlying28 w]
      rfl
    simp [loadVar, Sem.run_bind, hagg, sizeOf, typeInfo, hq, hs, hl]
theorem wpList_load_core {ops : Array Oper} {rest : List Oper} {o : Oper} {a : Act} {w : World} {Q : Exit → Act → World → Prop} (hgd : o.guard = none) (x : Operand) (ho : o.op = .load 28 x)
    (b off : Nat) (cs : List Value) (hx : a.eval x = .pointer (some ⟨b, off, none⟩)) (hc : Core7 w b off cs)
    (h : wpList Tryd.prog ops Q rest (a.put o.dst (.agg cs.toArray)) w) : wpList Tryd.prog ops Q (o :: rest) a w :=
  wpList_plain hgd fun _ hK => by
    unfold Oper.wp execOp
    simp only [ho, hx, Instr.loadAt, Instr.sureAddr, Sem.run_bind, Sem.run_pure, Result.andThen_ok, loadCore hc]
    exact hK _ _ h
/-- more than the law asks of -/
def bigN : Nat → Cr → Bool
  | 0, _ => true
  | f + 1, .mk _ _ _ l => decide (3 < l.length) || l.any (bigN f)
set_option maxHeartbeats 2000000 in
theorem big_any : ∀ (f : Nat) (x : Cr) (cs : List Value) (w : World), f < 4611686018427387904 → Cr.at w x cs →
    Calls Tryd.prog 24 #[.agg cs.toArray, .int .i64 f] w fun e w' => e = .returned (.bool (bigN f x)) ∧ Below w.heap.size w w'
  | 0, x, cs, w, _, h => by
    cases x with
    | mk k s n l =>
      rw [at_mk] at h
      obtain ⟨_, _, a, cap, rfl, _, _⟩ := h
      show Calls _ _ _ _ fun e w' => e = .returned (.bool true) ∧ _
      go_enter Tryd.func24, Tryd.ntmps24
      go_wp2_with fail
      go_ret
      exact ⟨rfl, (Below.refl _ _).alloc (Nat.le_refl _) _⟩
  | f + 1, x, cs, w, hf, h => by
    cases x with
    | mk k s n l =>
      have hat := h
      rw [at_mk] at h
      obtain ⟨_, _, a, cap, rfl, hmax, hl⟩ := h
      have ih := big_any f
      have hd0 : decide (((f + 1 : Nat) : Int) < 1) = false := by simp; omega
      have hsub : ((f + 1 : Nat) : Int) - 1 = (f : Int) := by omega
      generalize hF : ((f + 1 : Nat) : Int) = F at hd0 hsub ⊢
      have hFb : F ≤ 4611686018427387904 := by omega
      have hF0 : 0 ≤ F := by omega
      clear hF
      by_cases h3 : 3 < l.length
      · rw [show bigN (f + 1) (.mk k s n l) = true from by rw [bigN, decide_eq_true h3]; rfl]
        have hd : decide ((3 : Int) < l.length) = true := by simp; omega
        go_enter Tryd.func24, Tryd.ntmps24
        go_wp2_with fail
        go_ret
        exact ⟨rfl, (Below.refl _ _).alloc (Nat.le_refl _) _⟩
      · have hd : decide ((3 : Int) < l.length) = false := by simp; omega
        have hR : bigN (f + 1) (.mk k s n l) = l.any (bigN f) := by rw [bigN, decide_eq_false h3]; rfl
        rw [hR]
        obtain ⟨R, hRR⟩ : ∃ R, R = l.any (bigN f) := ⟨_, rfl⟩
        rw [← hRR]
        have HR := Lib.hid hRR
        clear hRR hR hat
        go_enter Tryd.func24, Tryd.ntmps24
        go_wp2_with fail
        go_loopw [5] (fun i wr => ∃ j : Nat, i = .int .i64 j ∧ j ≤ l.length ∧ (l.take j).any (bigN f) = false ∧ Below (w.heap.size + 1) (w.alloc (.cells #[.int .i64 k, .int .u64 (word s 0), .int .u64 (word s 1), .int .u64 (word s 2), .int .u64 (word s 3), .int .i64 n, .slice a l.length cap] 28)) wr) (fun i _ => l.length - (intOf i).toNat)
        case atStart => exact ⟨0, rfl, Nat.zero_le _, rfl, Below.refl _ _⟩
        case round =>
          obtain ⟨j, rfl, hj, hno, hr⟩ := hrel
          have cr : ∀ o, wr.cell? ⟨w.heap.size, o, none⟩ = (w.alloc _).cell? ⟨w.heap.size, o, none⟩ := fun o => hr.cell (p := ⟨w.heap.size, o, none⟩) (Nat.lt_succ_self _)
          have hB : Below w.heap.size w wr := ((Below.refl _ _).alloc (Nat.le_refl _) _).trans (hr.mono (Nat.le_succ _))
          have hrs : w.heap.size + 1 ≤ wr.heap.size := by have := hr.size; simp at this; omega
          by_cases hjl : j < l.length
          · have hdj : decide ((j : Int) < l.length) = true := by simp; omega
            rcases hl with hl | ⟨b, off, rfl, hcap, hbw, hnodes⟩
            · omega
            · obtain ⟨cs, hcs, hcell, hchild⟩ := nodes_get w b l off hnodes j hjl
              have h9 : Core7 wr b (off + j * 7) cs := ⟨hcs, fun q hq => by rw [hB.cell (p := ⟨b, off + j * 7 + q, none⟩) hbw]; exact hcell q hq⟩
              have hcall := ih l[j] cs wr (by omega) (Cr.at_below hB (Nat.le_refl _) _ _ hchild)
              have hstep : (l.take (j + 1)).any (bigN f) = bigN f l[j] := by
                rw [List.take_succ_eq_append_getElem hjl, List.any_append, hno]; simp
              have hany : bigN f l[j] = true → l.any (bigN f) = true := fun h => List.any_eq_true.mpr ⟨l[j], List.getElem_mem hjl, h⟩
              generalize bigN f l[j] = hv at hcall hstep hany
              clear hcell hchild hnodes ih hno
              cases hv with
              | true =>
                have hRt : R = true := by rw [HR.out]; exact hany rfl
                clear HR hany hstep
                subst hRt
                go_wp2_with (first
                  | (refine wpList_load_core rfl _ rfl b (off + j * 7) cs rfl h9 ?_)
                  | (go_at_call 24; refine hcall.mono ?_; rintro e w3 ⟨rfl, hb3⟩)
                  | fail)
                go_ret
                exact ⟨rfl, hB.trans (hb3.mono hB.size)⟩
              | false =>
                clear hany
                have Hstep := Lib.hid hstep
                clear hstep
                go_wp2_with (first
                  | (refine wpList_load_core rfl _ rfl b (off + j * 7) cs rfl h9 ?_)
                  | (go_at_call 24; refine hcall.mono ?_; rintro e w3 ⟨rfl, hb3⟩)
                  | fail)
                go_roundw
                case rel => exact ⟨j + 1, by go_num, by omega, Hstep.out, hr.trans (hb3.mono hrs)⟩
                case measure => simp [intOf]; omega
          · obtain rfl : j = l.length := by omega
            have hdj : decide ((l.length : Int) < l.length) = false := by simp
            rw [List.take_of_length_le (Nat.le_refl _)] at hno
            have hRf : R = false := by rw [HR.out, hno]
            clear hl ih hno hr HR
            subst hRf
            go_wp2_with fail
            go_ret
            exact ⟨rfl, hB⟩
end K
end Go.Proofs.YtonhmjfopidacaaDoor
