/- Cores: what one is, opened, visited, whether one may be, whether two are the same, their texts. -/
import Derived.Test.YtlgpbgcheeaalaaGreatDoorTreeMath
import Derived.Test.YtlgpbgcheeaalaaGreatDoorOpenNode
import Derived.Test.YtlgpbgcheeaalaaGreatDoorTreeHeavy
import Derived.Deep.LoopGhost
import Derived.Test.YtlgpbgcheeaalaaGreatDoorParseWhole
import Derived.Test.YtlgpbgcheeaalaaGreatDoorNodeAppend
import Derived.Test.YtlgpbgcheeaalaaGreatDoorHeld
import Derived.Test.YtlgpbgcheeaalaaGreatDoorTreeNodes
import Derived.Test.YtlgpbgcheeaalaaGreatDoorTreeGood
import Derived.Test.YtlgpbgcheeaalaaGreatDoorTreeDeep
import Derived.Test.YtlgpbgcheeaalaaGreatDoorLater
import Derived.Test.YtlgpbgcheeaalaaGreatDoorBuilder
import Derived.Lib.AppendIntMem
import Derived.Deep.DeepCutAuto
import Derived.StillTailTactics
/-! The plain mathematics of cores: what one is, how many parts, whether two are the same, which may be. -/
namespace Go.Proofs.YtlgpbgcheeaalaaGreatDoor
namespace K
set_option maxRecDepth 100000
open Go.RowKit

/-- a core: kind, set, number, elements -/
inductive Cr where
  | mk (kind : Int) (set : BitVec 256) (n : Int) (l : List Cr)
def Cr.kind : Cr → Int
  | .mk k _ _ _ => k
def Cr.nodes : Cr → List Cr
  | .mk _ _ _ l => l
mutual
def Cr.count : Cr → Nat
  | .mk _ _ _ l => 1 + counts l
def counts : List Cr → Nat
  | [] => 0
  | x :: l => x.count + counts l
end
theorem count_mk (k : Int) (s : BitVec 256) (n : Int) (l : List Cr) : (Cr.mk k s n l).count = 1 + counts l := by rw [Cr.count]
theorem counts_cons (x : Cr) (l : List Cr) : counts (x :: l) = x.count + counts l := by rw [counts]
theorem counts_nil : counts [] = 0 := by rw [counts]
theorem Cr.count_pos (x : Cr) : 0 < x.count := by
  cases x; rw [count_mk]; omega
theorem counts_mem {l : List Cr} {x : Cr} (h : x ∈ l) : x.count ≤ counts l := by
  induction l with
  | nil => simp at h
  | cons y l ih =>
    unfold counts
    rcases List.mem_cons.mp h with rfl | h
    · omega
    · have := ih h; omega
theorem count_mem {x y : Cr} (h : y ∈ x.nodes) : y.count < x.count := by
  cases x with
  | mk k s n l =>
    rw [count_mk]
    have := counts_mem (show y ∈ l from h)
    omega
def sizeOfC (x : Cr) : Nat := min x.count 100000
/-! whether two are equal -/
mutual
def Cr.same : Cr → Cr → Bool
  | .mk k s n l, .mk k' s' n' l' => decide (k = k') && decide (s = s') && decide (n = n') && sames l l'
def sames : List Cr → List Cr → Bool
  | [], [] => true
  | x :: l, y :: m => x.same y && sames l m
  | _, _ => false
end
mutual
theorem Cr.same_refl : ∀ x : Cr, x.same x = true
  | .mk _ _ _ l => by unfold Cr.same; simp [sames_refl l]
theorem sames_refl : ∀ l : List Cr, sames l l = true
  | [] => rfl
  | x :: l => by unfold sames; rw [Cr.same_refl x, sames_refl l]; rfl
end
mutual
theorem Cr.same_eq : ∀ x y : Cr, x.same y = true → x = y
  | .mk _ _ _ l, .mk _ _ _ l', h => by
    unfold Cr.same at h
    simp only [Bool.and_eq_true, decide_eq_true_eq] at h
    obtain ⟨⟨⟨rfl, rfl⟩, rfl⟩, h⟩ := h
    rw [sames_eq l l' h]
theorem sames_eq : ∀ l m : List Cr, sames l m = true → l = m
  | [], [], _ => rfl
  | [], _ :: _, h => by simp [sames] at h
  | _ :: _, [], h => by simp [sames] at h
  | x :: l, y :: m, h => by
    unfold sames at h
    rw [Bool.and_eq_true] at h
    rw [Cr.same_eq x y h.1, sames_eq l m h.2]
end
/-! which may be -/
/-- a part's own fields -/
def partOk (k : Int) (s : BitVec 256) (n : Int) (len : Nat) : Bool :=
  (k == 2 || decide (s = 0)) && (k == 6 || n == 0) &&
  (if k = 0 ∨ k = 1 ∨ k = 2 then decide (len = 0) else if k = 3 ∨ k = 4 then decide (len = 2) else if k = 5 ∨ k = 7 then decide (len = 1) else if k = 6 then decide (len = 1) && decide (1 ≤ n) && decide (n ≤ 32) else false)
def Cr.ok : Cr → Bool
  | .mk k s n l => partOk k s n l.length
mutual
def Cr.form : Cr → Bool
  | .mk k s n l => partOk k s n l.length && forms l
def forms : List Cr → Bool
  | [] => true
  | x :: l => x.form && forms l
end
theorem form_mk (k : Int) (s : BitVec 256) (n : Int) (l : List Cr) : (Cr.mk k s n l).form = (partOk k s n l.length && forms l) := by rw [Cr.form]
theorem forms_cons (x : Cr) (l : List Cr) : forms (x :: l) = (x.form && forms l) := by rw [forms]
theorem forms_nil : forms [] = true := by rw [forms]
def goodC (x : Cr) : Bool := decide (x.count ≤ 2000) && x.form
end K
end Go.Proofs.YtlgpbgcheeaalaaGreatDoor
/-! A core that was handed in, with all that hangs on it: opened. -/
namespace Go.Proofs.YtlgpbgcheeaalaaGreatDoor
namespace K
set_option maxRecDepth 100000
open Go.ChangeShapes Go.WideShapes Go.ChangeAt Go.RowKit

mutual
/-- the nine cells of a node, in a world -/
def Cr.at (w : World) : Cr → List Value → Prop
  | .mk k s n l, cs => fits64 k ∧ fits64 n ∧ ∃ (a : Option Addr) (cap : Nat),
      cs = [.int .i64 k, .int .u64 (word s 0), .int .u64 (word s 1), .int .u64 (word s 2), .int .u64 (word s 3), .int .i64 n, .slice a l.length cap] ∧ l.length ≤ maxLen ∧
      (l.length = 0 ∨ ∃ b off, a = some ⟨b, off, none⟩ ∧ l.length ≤ cap ∧ b < w.heap.size ∧ coresAt w l b off)
/-- nodes one behind the other -/
def coresAt (w : World) : List Cr → Nat → Nat → Prop
  | [], _, _ => True
  | x :: l, b, off => (∃ cs : List Value, cs.length = 7 ∧ (∀ q, q < 7 → w.cell? ⟨b, off + q, none⟩ = cs[q]?) ∧ Cr.at w x cs) ∧ coresAt w l b (off + 7)
end
theorem at_mk (w : World) (k : Int) (s : BitVec 256) (n : Int) (l : List Cr) (cs : List Value) : Cr.at w (.mk k s n l) cs = (fits64 k ∧ fits64 n ∧ ∃ (a : Option Addr) (cap : Nat),
      cs = [.int .i64 k, .int .u64 (word s 0), .int .u64 (word s 1), .int .u64 (word s 2), .int .u64 (word s 3), .int .i64 n, .slice a l.length cap] ∧ l.length ≤ maxLen ∧
      (l.length = 0 ∨ ∃ b off, a = some ⟨b, off, none⟩ ∧ l.length ≤ cap ∧ b < w.heap.size ∧ coresAt w l b off)) := by rw [Cr.at]
theorem coresAt_cons (w : World) (x : Cr) (l : List Cr) (b off : Nat) : coresAt w (x :: l) b off = ((∃ cs : List Value, cs.length = 7 ∧ (∀ q, q < 7 → w.cell? ⟨b, off + q, none⟩ = cs[q]?) ∧ Cr.at w x cs) ∧ coresAt w l b (off + 7)) := by rw [coresAt]
theorem coresAt_nil (w : World) (b off : Nat) : coresAt w [] b off = True := by rw [coresAt]
mutual
theorem Cr.at_below {B : Nat} {w w' : World} (hb : Below B w w') (hB : w.heap.size ≤ B) : ∀ (x : Cr) (cs : List Value), Cr.at w x cs → Cr.at w' x cs
  | .mk k s n l, cs, h => by
    rw [at_mk] at h ⊢
    obtain ⟨h1, h4, a, cap, h5, h6, h7⟩ := h
    refine ⟨h1, h4, a, cap, h5, h6, ?_⟩
    rcases h7 with h7 | ⟨b, off, e1, e2, e3, e4⟩
    · exact .inl h7
    · exact .inr ⟨b, off, e1, e2, Nat.lt_of_lt_of_le e3 hb.size, coresAt_below hb hB l b off (by omega) e4⟩
theorem coresAt_below {B : Nat} {w w' : World} (hb : Below B w w') (hB : w.heap.size ≤ B) : ∀ (l : List Cr) (b off : Nat), b < B → coresAt w l b off → coresAt w' l b off
  | [], b, off, _, _ => by rw [coresAt_nil]; trivial
  | x :: l, b, off, hlt, h => by
    rw [coresAt_cons] at h ⊢
    obtain ⟨⟨cs, h1, h2, h3⟩, h4⟩ := h
    exact ⟨⟨cs, h1, fun q hq => by rw [hb.cell (p := ⟨b, off + q, none⟩) hlt]; exact h2 q hq, Cr.at_below hb hB x cs h3⟩, coresAt_below hb hB l b (off + 7) hlt h4⟩
end
theorem nodes_from (w : World) (b : Nat) : ∀ (n off : Nat), (∀ i, i < n → ∃ (cs : List Value) (x : Cr), cs.length = 7 ∧ (∀ q, q < 7 → w.cell? ⟨b, off + i * 7 + q, none⟩ = cs[q]?) ∧ Cr.at w x cs) → ∃ l : List Cr, l.length = n ∧ coresAt w l b off
  | 0, off, _ => ⟨[], rfl, by rw [coresAt_nil]; trivial⟩
  | n + 1, off, h => by
    obtain ⟨cs, x, h1, h2, h3⟩ := h 0 (by omega)
    obtain ⟨l, hl, hl2⟩ := nodes_from w b n (off + 7) (fun i hi => by
      obtain ⟨cs', x', g1, g2, g3⟩ := h (i + 1) (by omega)
      exact ⟨cs', x', g1, fun q hq => by have := g2 q hq; rw [show off + (i + 1) * 7 + q = off + 7 + i * 7 + q from by omega] at this; exact this, g3⟩)
    refine ⟨x :: l, by simp [hl], ?_⟩
    rw [coresAt_cons]
    exact ⟨⟨cs, h1, fun q hq => by have := h2 q hq; rw [Nat.zero_mul, Nat.add_zero] at this; exact this, h3⟩, hl2⟩
theorem cellsCore : Tryz.prog.cellsOf 30 = 7 := by kernel_rfl
theorem cellsRowC : Tryz.prog.cellsOf 28 = 1 := by kernel_rfl
theorem core_of_trod {H : Type} {enc : TypeId × Value → H} {W : World} {sp : Nat} {keep : Nat → Bool} {hd : Bool} : ∀ (fuel : Nat) (cs : List Value) (x : DataW H × List MemPlace),
    DataW.trod enc Tryz.prog W sp keep hd fuel 30 cs = some x → ∃ nd : Cr, Cr.at W nd cs := by
  intro fuel
  induction fuel using Nat.strongRecOn with
  | _ fuel ih =>
    intro cs x h
    obtain ⟨xs, n, hfu, _, hlen, hxl, hf⟩ := DataW.trod_struct Tryz.underlying30 h
    rw [cellsCore] at hlen
    obtain ⟨c0, c1, c2, c3, c4, c7, c8, rfl⟩ : ∃ c0 c1 c2 c3 c4 c7 c8, cs = [c0, c1, c2, c3, c4, c7, c8] := by
      match cs, hlen with
      | [a, b, c, d, e, i, j], _ => exact ⟨a, b, c, d, e, i, j, rfl⟩
    have f0 : DataW.trod enc Tryz.prog W sp keep hd n 3 (([c0, c1, c2, c3, c4, c7, c8].drop 0).take (Tryz.prog.cellsOf 3)) = xs[0]? := hf 0 _ rfl
    rw [cellsInt] at f0
    have f1 : DataW.trod enc Tryz.prog W sp keep hd n 27 (([c0, c1, c2, c3, c4, c7, c8].drop 1).take (Tryz.prog.cellsOf 27)) = xs[1]? := hf 1 _ rfl
    rw [cellsSet] at f1
    have f4 : DataW.trod enc Tryz.prog W sp keep hd n 3 (([c0, c1, c2, c3, c4, c7, c8].drop 5).take (Tryz.prog.cellsOf 3)) = xs[2]? := hf 2 _ rfl
    rw [cellsInt] at f4
    have f5 : DataW.trod enc Tryz.prog W sp keep hd n 28 (([c0, c1, c2, c3, c4, c7, c8].drop 6).take (Tryz.prog.cellsOf 28)) = xs[3]? := hf 3 _ rfl
    rw [cellsRowC] at f5
    obtain ⟨x0, x1, x4, x5, rfl⟩ : ∃ x0 x1 x4 x5, xs = [x0, x1, x4, x5] := by
      have h6 : xs.length = 4 := hxl
      match xs, h6 with
      | [a, b, c, d], _ => exact ⟨a, b, c, d, rfl⟩
    obtain ⟨k, e0, _, w0⟩ := DataW.trod_int Tryz.underlying3 (show DataW.trod enc Tryz.prog W sp keep hd n 3 [c0] = some x0 from f0)
    obtain ⟨s, hs⟩ := set_of_trod (show DataW.trod enc Tryz.prog W sp keep hd n 27 [c1, c2, c3, c4] = some x1 from f1) rfl
    obtain ⟨m, e4, _, w4⟩ := DataW.trod_int Tryz.underlying3 (show DataW.trod enc Tryz.prog W sp keep hd n 3 [c7] = some x4 from f4)
    cases e0; cases e4
    have s0 := hs 0 (by decide)
    have s1 := hs 1 (by decide)
    have s2 := hs 2 (by decide)
    have s3 := hs 3 (by decide)
    simp only [List.getElem?_cons_zero, List.getElem?_cons_succ, Option.some.injEq] at s0 s1 s2 s3
    subst s0 s1 s2 s3
    rcases DataW.trod_slice Tryz.underlying28 (show DataW.trod enc Tryz.prog W sp keep hd n 28 [c8] = some x5 from f5) with ⟨hc, _⟩ | ⟨a', len, cap, elems, rest, n', hn', hc, _, _, hl, hm, hel, heach, _, _⟩
    · cases hc
      exact ⟨.mk k s m [], by rw [at_mk]; exact ⟨w0, w4, none, 0, rfl, by decide, .inl rfl⟩⟩
    · cases hc
      have hget : ∀ i, i < len → ∃ (cs : List Value) (x : Cr), cs.length = 7 ∧ (∀ q, q < 7 → W.cell? ((a'.add (i * 7)).add q) = cs[q]?) ∧ Cr.at W x cs := by
        intro i hi'
        have h1 := heach i hi'
        rw [cellsCore, List.getElem?_eq_getElem (by omega)] at h1
        simp only [Option.bind_eq_some_iff] at h1
        obtain ⟨cs', h2, h3⟩ := h1
        obtain ⟨h4, h5⟩ := cells_each h2
        obtain ⟨nd, hnd⟩ := ih n' (by omega) cs' _ h3
        exact ⟨cs', nd, h4, fun q hq => h5 q hq, hnd⟩
      by_cases h0 : len = 0
      · subst h0
        exact ⟨.mk k s m [], by rw [at_mk]; exact ⟨w0, w4, some a', cap, rfl, by decide, .inl rfl⟩⟩
      · obtain ⟨b, off, spot⟩ := a'
        obtain ⟨cs0, nd0, g1, g2, g3⟩ := hget 0 (by omega)
        have c0' := g2 0 (by decide)
        rw [List.getElem?_eq_getElem (by omega)] at c0'
        have hspot : spot = none := by simpa [Addr.add] using World.cell?_spot c0'
        subst hspot
        have hb : b < W.heap.size := by
          rw [add_at, add_at] at c0'
          exact World.block_lt_of_cell? W _ c0'
        obtain ⟨l, hll, hat⟩ := nodes_from W b len off (fun i hi' => by
          obtain ⟨cs', x', g1, g2, g3⟩ := hget i hi'
          exact ⟨cs', x', g1, fun q hq => by have := g2 q hq; rw [add_at, add_at] at this; exact this, g3⟩)
        refine ⟨.mk k s m l, ?_⟩
        rw [at_mk]
        exact ⟨w0, w4, some ⟨b, off, none⟩, cap, by rw [hll], by omega, .inr ⟨b, off, rfl, by omega, hb, hat⟩⟩
theorem open_core {H : Type} {enc : TypeId × Value → H} {W : World} {base sp : Nat} {keep : Nat → Bool} {hd : Bool} {r : Reach} {v : Value} {d : DataW H} {ps : List MemPlace}
    (hval : Value.okWide Tryz.prog W r base 30 v) (h : DataW.Trod enc Tryz.prog W sp keep hd 30 v d ps) : ∃ (nd : Cr) (cs : List Value), v = .agg cs.toArray ∧ Cr.at W nd cs := by
  obtain ⟨cs, rfl, hs⟩ := okWide_struct Tryz.underlying30 hval
  obtain ⟨fuel, hf⟩ := h
  obtain ⟨nd, hnd⟩ := core_of_trod fuel cs.toList _ hf
  exact ⟨nd, cs.toList, by simp, hnd⟩
end K
end Go.Proofs.YtlgpbgcheeaalaaGreatDoor
/-! A core loaded out of memory; the walk of law 8's big. -/
namespace Go.Proofs.YtlgpbgcheeaalaaGreatDoor
namespace K
set_option maxRecDepth 100000
open Go.RowKit
theorem nodes_get (w : World) (b : Nat) : ∀ (l : List Cr) (off : Nat), coresAt w l b off → ∀ j (hj : j < l.length), ∃ cs : List Value, cs.length = 7 ∧ (∀ q, q < 7 → w.cell? ⟨b, off + j * 7 + q, none⟩ = cs[q]?) ∧ Cr.at w l[j] cs
  | [], _, _, j, hj => by simp at hj
  | x :: l, off, h, j, hj => by
    rw [coresAt_cons] at h
    cases j with
    | zero =>
      obtain ⟨cs, h1, h2, h3⟩ := h.1
      exact ⟨cs, h1, fun q hq => by rw [Nat.zero_mul, Nat.add_zero]; exact h2 q hq, h3⟩
    | succ j =>
      obtain ⟨cs, h1, h2, h3⟩ := nodes_get w b l (off + 7) h.2 j (by simpa using hj)
      exact ⟨cs, h1, fun q hq => by rw [show off + (j + 1) * 7 + q = off + 7 + j * 7 + q from by omega]; exact h2 q hq, h3⟩
/-- nine cells lie at b, off -/
def Core7 (w : World) (b off : Nat) (cs : List Value) : Prop := cs.length = 7 ∧ ∀ q, q < 7 → w.cell? ⟨b, off + q, none⟩ = cs[q]?
theorem infoCore : (Tryz.prog.info? 30).map (·.size) = some 7 := by kernel_rfl
theorem loadCore {w : World} {b off : Nat} {cs : List Value} (h : Core7 w b off cs) : (loadVar 30 ⟨b, off, none⟩).run Tryz.prog w = .ok (.agg cs.toArray) w := by
  have hl := run_loadCells_list (P := Tryz.prog) w ⟨b, off, none⟩ cs (fun j v hv => by
    have hj : j < 7 := by have := (List.getElem?_eq_some_iff.mp hv).1; rw [h.1] at this; exact this
    rw [addr_at, h.2 j hj]; exact hv)
  have hi := infoCore
  rw [h.1] at hl
  cases hq : Tryz.prog.info? 30 with
  | none => simp [hq] at hi
  | some i =>
    have hs : i.size = 7 := by simpa [hq] using hi
    have hagg : (isAgg 30).run Tryz.prog w = .ok true w := by
      unfold isAgg
      rw [Sem.run_bind, run_underlying Tryz.underlying30 w]
      rfl
    simp [loadVar, Sem.run_bind, hagg, sizeOf, typeInfo, hq, hs, hl]
theorem wpList_load_core {ops : Array Oper} {rest : List Oper} {o : Oper} {a : Act} {w : World} {Q : Exit → Act → World → Prop} (hgd : o.guard = none) (x : Operand) (ho : o.op = .load 30 x)
    (b off : Nat) (cs : List Value) (hx : a.eval x = .pointer (some ⟨b, off, none⟩)) (hc : Core7 w b off cs)
    (h : wpList Tryz.prog ops Q rest (a.put o.dst (.agg cs.toArray)) w) : wpList Tryz.prog ops Q (o :: rest) a w :=
  wpList_plain hgd fun _ hK => by
    unfold Oper.wp execOp
    simp only [ho, hx, Instr.loadAt, Instr.sureAddr, Sem.run_bind, Sem.run_pure, Result.andThen_ok, loadCore hc]
    exact hK _ _ h
/-- more than the law asks of -/
def bigN : Nat → Cr → Bool
  | 0, _ => true
  | f + 1, .mk _ _ _ l => decide (3 < l.length) || l.any (bigN f)
set_option maxHeartbeats 2000000 in
theorem big_any : ∀ (f : Nat) (x : Cr) (cs : List Value) (w : World), f < 4611686018427387904 → Cr.at w x cs →
    Calls Tryz.prog 17 #[.agg cs.toArray, .int .i64 f] w fun e w' => e = .returned (.bool (bigN f x)) ∧ Below w.heap.size w w'
  | 0, x, cs, w, _, h => by
    cases x with
    | mk k s n l =>
      rw [at_mk] at h
      obtain ⟨_, _, a, cap, rfl, _, _⟩ := h
      show Calls _ _ _ _ fun e w' => e = .returned (.bool true) ∧ _
      go_enter Tryz.func17, Tryz.ntmps17
      go_wp2_with fail
      go_ret
      exact ⟨rfl, (Below.refl _ _).alloc (Nat.le_refl _) _⟩
  | f + 1, x, cs, w, hf, h => by
    cases x with
    | mk k s n l =>
      have hat := h
      rw [at_mk] at h
      obtain ⟨_, _, a, cap, rfl, hmax, hl⟩ := h
      have ih := big_any f
      have hd0 : decide (((f + 1 : Nat) : Int) < 1) = false := by simp; omega
      have hsub : ((f + 1 : Nat) : Int) - 1 = (f : Int) := by omega
      generalize hF : ((f + 1 : Nat) : Int) = F at hd0 hsub ⊢
      have hFb : F ≤ 4611686018427387904 := by omega
      have hF0 : 0 ≤ F := by omega
      clear hF
      by_cases h3 : 3 < l.length
      · rw [show bigN (f + 1) (.mk k s n l) = true from by rw [bigN, decide_eq_true h3]; rfl]
        have hd : decide ((3 : Int) < l.length) = true := by simp; omega
        go_enter Tryz.func17, Tryz.ntmps17
        go_wp2_with fail
        go_ret
        exact ⟨rfl, (Below.refl _ _).alloc (Nat.le_refl _) _⟩
      · have hd : decide ((3 : Int) < l.length) = false := by simp; omega
        have hR : bigN (f + 1) (.mk k s n l) = l.any (bigN f) := by rw [bigN, decide_eq_false h3]; rfl
        rw [hR]
        obtain ⟨R, hRR⟩ : ∃ R, R = l.any (bigN f) := ⟨_, rfl⟩
        rw [← hRR]
        have HR := Lib.hid hRR
        clear hRR hR hat
        go_enter Tryz.func17, Tryz.ntmps17
        go_wp2_with fail
        go_loopw [5] (fun i wr => ∃ j : Nat, i = .int .i64 j ∧ j ≤ l.length ∧ (l.take j).any (bigN f) = false ∧ Below (w.heap.size + 1) (w.alloc (.cells #[.int .i64 k, .int .u64 (word s 0), .int .u64 (word s 1), .int .u64 (word s 2), .int .u64 (word s 3), .int .i64 n, .slice a l.length cap] 30)) wr) (fun i _ => l.length - (intOf i).toNat)
        case atStart => exact ⟨0, rfl, Nat.zero_le _, rfl, Below.refl _ _⟩
        case round =>
          obtain ⟨j, rfl, hj, hno, hr⟩ := hrel
          have cr : ∀ o, wr.cell? ⟨w.heap.size, o, none⟩ = (w.alloc _).cell? ⟨w.heap.size, o, none⟩ := fun o => hr.cell (p := ⟨w.heap.size, o, none⟩) (Nat.lt_succ_self _)
          have hB : Below w.heap.size w wr := ((Below.refl _ _).alloc (Nat.le_refl _) _).trans (hr.mono (Nat.le_succ _))
          have hrs : w.heap.size + 1 ≤ wr.heap.size := by have := hr.size; simp at this; omega
          by_cases hjl : j < l.length
          · have hdj : decide ((j : Int) < l.length) = true := by simp; omega
            rcases hl with hl | ⟨b, off, rfl, hcap, hbw, hnodes⟩
            · omega
            · obtain ⟨cs, hcs, hcell, hchild⟩ := nodes_get w b l off hnodes j hjl
              have h9 : Core7 wr b (off + j * 7) cs := ⟨hcs, fun q hq => by rw [hB.cell (p := ⟨b, off + j * 7 + q, none⟩) hbw]; exact hcell q hq⟩
              have hcall := ih l[j] cs wr (by omega) (Cr.at_below hB (Nat.le_refl _) _ _ hchild)
              have hstep : (l.take (j + 1)).any (bigN f) = bigN f l[j] := by
                rw [List.take_succ_eq_append_getElem hjl, List.any_append, hno]; simp
              have hany : bigN f l[j] = true → l.any (bigN f) = true := fun h => List.any_eq_true.mpr ⟨l[j], List.getElem_mem hjl, h⟩
              generalize bigN f l[j] = hv at hcall hstep hany
              clear hcell hchild hnodes ih hno
              cases hv with
              | true =>
                have hRt : R = true := by rw [HR.out]; exact hany rfl
                clear HR hany hstep
                subst hRt
                go_wp2_with (first
                  | (refine wpList_load_core rfl _ rfl b (off + j * 7) cs rfl h9 ?_)
                  | (go_at_call 17; refine hcall.mono ?_; rintro e w3 ⟨rfl, hb3⟩)
                  | fail)
                go_ret
                exact ⟨rfl, hB.trans (hb3.mono hB.size)⟩
              | false =>
                clear hany
                have Hstep := Lib.hid hstep
                clear hstep
                go_wp2_with (first
                  | (refine wpList_load_core rfl _ rfl b (off + j * 7) cs rfl h9 ?_)
                  | (go_at_call 17; refine hcall.mono ?_; rintro e w3 ⟨rfl, hb3⟩)
                  | fail)
                go_roundw
                case rel => exact ⟨j + 1, by go_num, by omega, Hstep.out, hr.trans (hb3.mono hrs)⟩
                case measure => simp [intOf]; omega
          · obtain rfl : j = l.length := by omega
            have hdj : decide ((l.length : Int) < l.length) = false := by simp
            rw [List.take_of_length_le (Nat.le_refl _)] at hno
            have hRf : R = false := by rw [HR.out, hno]
            clear hl ih hno hr HR
            subst hRf
            go_wp2_with fail
            go_ret
            exact ⟨rfl, hB⟩
end K
end Go.Proofs.YtlgpbgcheeaalaaGreatDoor
/-! Cores in blocks of their own, stored, appended, made of lists; cores that lie in new memory alone. -/
namespace Go.Proofs.YtlgpbgcheeaalaaGreatDoor
namespace K
set_option maxRecDepth 100000
open Go.RowKit
theorem at_cells {w : World} {x : Cr} {cs : List Value} (hat : Cr.at w x cs) : ∃ (s : BitVec 256) (n : Int) (a : Option Addr) (cap : Nat), x = .mk x.kind s n x.nodes ∧
    cs = [.int .i64 x.kind, .int .u64 (word s 0), .int .u64 (word s 1), .int .u64 (word s 2), .int .u64 (word s 3), .int .i64 n, .slice a x.nodes.length cap] := by
  cases x with
  | mk k s n l =>
    rw [at_mk] at hat
    obtain ⟨_, _, a, cap, hcs, _, _⟩ := hat
    exact ⟨s, n, a, cap, rfl, hcs⟩
theorem at_lit {W : World} {x : Cr} {cs : List Value} (h : Cr.at W x cs) : ∃ (k : Int) (s : BitVec 256) (n : Int) (a : Option Addr) (len cap : Nat), cs = [.int .i64 k, .int .u64 (word s 0), .int .u64 (word s 1), .int .u64 (word s 2), .int .u64 (word s 3), .int .i64 n, .slice a len cap] := by
  obtain ⟨s, n, a, cap, _, e⟩ := at_cells h
  exact ⟨_, s, n, a, _, cap, e⟩
def CoreIn (w : World) (b : Nat) (cs : Array Value) : Prop := w.heap[b]? = some (.cells cs 30)
theorem wpList_store_core {ops : Array Oper} {rest : List Oper} {o : Oper} {a : Act} {w : World} {Q : Exit → Act → World → Prop} (hgd : o.guard = none) (x y : Operand) (ho : o.op = .store 30 x y)
    (b : Nat) (cs ds : Array Value) (hx : a.eval x = .pointer (some ⟨b, 0, none⟩)) (hy : a.eval y = .agg ds) (hb : CoreIn w b cs) (hd : ds.size = 7) (hc : cs.size = 7) (h1 : (ds.all fun x => x.oneCell') = true)
    (h : ∀ w', CoreIn w' b ds → Only b w w' → wpList Tryz.prog ops Q rest (a.put o.dst undef) w') : wpList Tryz.prog ops Q (o :: rest) a w :=
  wpList_store_row hgd _ _ _ ho b _ hx hy _ _ hb (by rw [hd]; exact infoCore) (by rw [hd, hc]) h1 (h _ (setRow_heap w b _ _ _ _ hb) (only_row _ _ _))
theorem results_core {fn : Func} {p : Tmp} (h : fn.results = #[.cell p 30]) (tmps : Array Value) (w : World) (b : Nat) (cs : Array Value) (hp : tmps.getD p undef = .pointer (some ⟨b, 0, none⟩)) (hs : CoreIn w b cs) (hc : cs.size = 7) :
    (results fn tmps).run Tryz.prog w = .ok (.agg cs) w := results_cell_row h tmps w b _ _ _ _ hp hs Tryz.underlying30 rfl (show _ = some cs.size from by rw [hc]; exact infoCore)
theorem wpList_load_node_want {ops : Array Oper} {rest : List Oper} {o : Oper} {a : Act} {w : World} {Q : Exit → Act → World → Prop} (hw : Region.wanted o (yielded ops a.tmps) = true) (x : Operand) (ho : o.op = .load 30 x)
    (b off : Nat) (cs : List Value) (hx : a.eval x = .pointer (some ⟨b, off, none⟩)) (hc : Core7 w b off cs)
    (h : wpList Tryz.prog ops Q rest (a.put o.dst (.agg cs.toArray)) w) : wpList Tryz.prog ops Q (o :: rest) a w :=
  BigFrame.wpList_want hw fun _ hK => by
    unfold Oper.wp execOp
    simp only [ho, hx, Instr.loadAt, Instr.sureAddr, Sem.run_bind, Sem.run_pure, Result.andThen_ok, loadCore hc]
    exact hK _ _ h
theorem at_len {W : World} {N : Cr} {cs : List Value} (h : Cr.at W N cs) : cs.length = 7 := by
  obtain ⟨_, _, _, _, _, e⟩ := at_cells h
  rw [e]; rfl
theorem coresAt_cells {W : World} {b : Nat} : ∀ (L : List (Cr × List Value)) (off : Nat), (∀ p ∈ L, Cr.at W p.1 p.2) → (∀ q, q < L.length * 7 → W.cell? ⟨b, off + q, none⟩ = (L.flatMap (·.2))[q]?) → coresAt W (L.map (·.1)) b off
  | [], off, _, _ => by rw [List.map_nil, coresAt_nil]; trivial
  | p :: L, off, h, hc => by
    rw [List.map_cons, coresAt_cons]
    have hp := at_len (h p (by simp))
    refine ⟨⟨p.2, hp, fun q hq => ?_, h p (by simp)⟩, coresAt_cells L (off + 7) (fun r hr => h r (by simp [hr])) fun q hq => ?_⟩
    · rw [hc q (by simp; omega), List.flatMap_cons, List.getElem?_append_left (by omega)]
    · rw [Nat.add_assoc, hc (7 + q) (by simp; omega), List.flatMap_cons, List.getElem?_append_right (by omega)]
      congr 1
      omega
theorem at_made {W : World} {b : Nat} {k n : Int} (hk : fits64 k) (hn : fits64 n) (L : List (Cr × List Value)) (hL : L.length ≤ maxLen) (h : ∀ p ∈ L, Cr.at W p.1 p.2)
    (hb : W.heap[b]? = some (.cells (L.flatMap (·.2)).toArray 30)) :
    Cr.at W (.mk k 0 n (L.map (·.1))) [.int .i64 k, .int .u64 0, .int .u64 0, .int .u64 0, .int .u64 0, .int .i64 n, .slice (some ⟨b, 0, none⟩) L.length L.length] := by
  rw [at_mk]
  refine ⟨hk, hn, some ⟨b, 0, none⟩, L.length, ?_, by simpa using hL, .inr ⟨b, 0, rfl, by simp, (Array.getElem?_eq_some_iff.1 hb).1, coresAt_cells L 0 h fun q _ => ?_⟩⟩
  · simp only [word_zero, List.length_map]; rfl
  · simp [World.cell?, hb]
theorem at_plain {W : World} {k n : Int} (s : BitVec 256) (hk : fits64 k) (hn : fits64 n) :
    Cr.at W (.mk k s n []) [.int .i64 k, .int .u64 (word s 0), .int .u64 (word s 1), .int .u64 (word s 2), .int .u64 (word s 3), .int .i64 n, .slice none 0 0] := by
  rw [at_mk]
  exact ⟨hk, hn, none, 0, rfl, by decide, .inl rfl⟩
mutual
/-- what is there in one world is there in the other: so is a node -/
theorem Cr.at_same {w w' : World} (h : ∀ p v, w.cell? p = some v → w'.cell? p = some v) (hs : w.heap.size ≤ w'.heap.size) : ∀ (x : Cr) (cs : List Value), Cr.at w x cs → Cr.at w' x cs
  | .mk k s n l, cs, ha => by
    rw [at_mk] at ha ⊢
    obtain ⟨h1, h4, a, cap, h5, h6, h7⟩ := ha
    refine ⟨h1, h4, a, cap, h5, h6, ?_⟩
    rcases h7 with h7 | ⟨b, off, e1, e2, e3, e4⟩
    · exact .inl h7
    · exact .inr ⟨b, off, e1, e2, Nat.lt_of_lt_of_le e3 hs, coresAt_same h hs l b off e4⟩
theorem coresAt_same {w w' : World} (h : ∀ p v, w.cell? p = some v → w'.cell? p = some v) (hs : w.heap.size ≤ w'.heap.size) : ∀ (l : List Cr) (b off : Nat), coresAt w l b off → coresAt w' l b off
  | [], b, off, _ => by rw [coresAt_nil]; trivial
  | x :: l, b, off, ha => by
    rw [coresAt_cons] at ha ⊢
    obtain ⟨⟨cs, h1, h2, h3⟩, h4⟩ := ha
    refine ⟨⟨cs, h1, fun q hq => ?_, Cr.at_same h hs x cs h3⟩, coresAt_same h hs l b (off + 7) h4⟩
    have h5 := h2 q hq
    rw [List.getElem?_eq_getElem (by omega)] at h5 ⊢
    exact h _ _ h5
end
abbrev zeroCore : Value := .agg #[.int .i64 0, .int .u64 0, .int .u64 0, .int .u64 0, .int .u64 0, .int .i64 0, .slice none 0 0]
theorem info_core : (Tryz.prog.info? 30).map (fun i => (i.zero, i.size, i.bytes)) = some (some zeroCore, 7, 72) := by kernel_rfl
theorem wpList_append_core {ops : Array Oper} {rest : List Oper} {o : Oper} {a : Act} {w : World} {Q : Exit → Act → World → Prop} (hgd : o.guard = none) (s x : Operand)
    (ho : o.op = .call { callee := .builtin .append, args := #[s, x], argTypes := #[28, 28] }) (base : Nat) (v : Value) (n : Nat) (xs : List Value) (hs : a.eval s = v)
    (hown : w.ownsRow base 30 7 v n xs) (b : Nat) (cs : List Value) (hx : a.eval x = .slice (some ⟨b, 0, none⟩) 1 1) (hc : Core7 w b 0 cs) (h1 : ∀ u ∈ cs, u.oneCell' = true) (hn : n < 1000000000000) (hbase : base ≤ w.heap.size)
    (h : ∀ v' w', w'.ownsRow base 30 7 v' (n + 1) (xs ++ cs) → w.grownBy w' v.ownBlock → wpList Tryz.prog ops Q rest (a.put o.dst v') w') : wpList Tryz.prog ops Q (o :: rest) a w := by
  obtain ⟨i0, hi, hz0, hz1, hz2⟩ := info_parts info_core
  refine wpList_append_own w hgd s x _ ho base 30 i0 zeroCore 7 72 Tryz.underlying28 hi hz0 hz1 hz2 rfl (by decide) v n xs hs hown ⟨b, 0, none⟩ 1 1 cs hx (by rw [hc.1]) ?_ h1 (by unfold maxLen; omega) (by omega) hbase ?_
  · intro j u hj
    have hjl : j < 7 := by rw [← hc.1]; exact (List.getElem?_eq_some_iff.1 hj).1
    rw [addr_at, hc.2 j hjl, hj]
  · intro v' w' g1 g2 _
    exact h v' w' g1 g2
theorem coresAt_owns {w : World} {base : Nat} {v : Value} {n : Nat} (L : List (Cr × List Value)) (hL : ∀ p ∈ L, Cr.at w p.1 p.2) (hn : n = L.length) (h0 : 0 < n) (h : w.ownsRow base 30 7 v n (L.flatMap (·.2))) :
    ∃ g cap, v = .slice (some ⟨g, 0, none⟩) n cap ∧ base ≤ g ∧ g < w.heap.size ∧ n ≤ cap ∧ n ≤ maxLen ∧ coresAt w (L.map (·.1)) g 0 := by
  rcases h.2 with ⟨_, h1⟩ | ⟨g, cap, cur, rfl, hb, hg, hc, hm, hs, htake⟩
  · omega
  · refine ⟨g, cap, rfl, hb, (Array.getElem?_eq_some_iff.1 hg).1, hc, by omega, coresAt_cells L 0 hL fun q hq => ?_⟩
    have hlen := h.1
    obtain ⟨u, hu⟩ : ∃ u, (L.flatMap (·.2))[q]? = some u := ⟨_, List.getElem?_eq_getElem (by omega)⟩
    have := h.cells (g := g) rfl q u hu
    rw [addr_at] at this
    rw [this, hu]
theorem core7_in {w : World} {b : Nat} {cs : List Value} (h : CoreIn w b cs.toArray) (hc : cs.length = 7) : Core7 w b 0 cs := ⟨hc, fun q _ => by rw [Nat.zero_add, cells_at h]; simp⟩
theorem at_cell_one {w : World} {x : Cr} {cs : List Value} (h : Cr.at w x cs) : ∀ u ∈ cs, u.oneCell' = true := by
  obtain ⟨_, _, _, _, _, e⟩ := at_cells h
  rw [e]
  simp only [List.forall_mem_cons]
  exact ⟨rfl, rfl, rfl, rfl, rfl, rfl, rfl, fun p hp => by cases hp⟩
def CrFrom (B : Nat) (w : World) (x : Cr) (cs : List Value) : Prop := Cr.at (killBelow B w) x cs
theorem CrFrom.keep {B B' : Nat} {w w' : World} {x : Cr} {cs : List Value} (h : CrFrom B w x cs) (hB : B' ≤ B) (hs : w.heap.size ≤ w'.heap.size) (hk : ∀ k, B ≤ k → k < w.heap.size → w'.heap[k]? = w.heap[k]?) : CrFrom B' w' x cs :=
  Cr.at_same (fun _ _ => kill_keep hB hk) (by rw [kill_size, kill_size]; exact hs) x cs h
theorem CrFrom.but {R B B' : Nat} {w w' : World} {x : Cr} {cs : List Value} (h : CrFrom B w x cs) (hb : But R w w') (hR : R < B) (hB : B' ≤ B) : CrFrom B' w' x cs := h.keep hB hb.size fun k h1 h2 => hb.block k h2 (by omega)
theorem CrFrom.only {c B B' : Nat} {w w' : World} {x : Cr} {cs : List Value} (h : CrFrom B w x cs) (hb : Only c w w') (hc : c < B) (hB : B' ≤ B) : CrFrom B' w' x cs := h.keep hB (Nat.le_of_eq hb.size.symm) fun k h1 _ => hb.block k (by omega)
theorem CrFrom.alloc {B B' : Nat} {w : World} {x : Cr} {cs : List Value} (h : CrFrom B w x cs) (o : Obj) (hB : B' ≤ B) : CrFrom B' (w.alloc o) x cs := h.keep hB (by simp) fun k _ h2 => Below.heap_alloc w o k h2
theorem CrFrom.at {B : Nat} {w : World} {x : Cr} {cs : List Value} (h : CrFrom B w x cs) : Cr.at w x cs :=
  Cr.at_same (fun _ _ hp => (kill_cell hp).2) (by rw [kill_size]; exact Nat.le_refl _) x cs h
theorem CrFrom.below {B : Nat} {w w' : World} {x : Cr} {cs : List Value} (h : CrFrom B w x cs) (hb : Below w.heap.size w w') : CrFrom B w' x cs := h.keep (Nat.le_refl _) hb.size fun k _ h2 => hb.block k h2
def RowFrom (B : Nat) (w : World) (v : Value) (L : List Cr) : Prop :=
  ∃ gb cap, v = .slice (some ⟨gb, 0, none⟩) L.length cap ∧ L.length ≤ cap ∧ L.length ≤ maxLen ∧ B ≤ gb ∧ gb < w.heap.size ∧ coresAt (killBelow B w) L gb 0
theorem RowFrom.keep {B B' : Nat} {w w' : World} {v : Value} {L : List Cr} (h : RowFrom B w v L) (hB : B' ≤ B) (hs : w.heap.size ≤ w'.heap.size) (hk : ∀ k, B ≤ k → k < w.heap.size → w'.heap[k]? = w.heap[k]?) : RowFrom B' w' v L := by
  obtain ⟨gb, cap, e, h1, h2, h3, h4, h5⟩ := h
  exact ⟨gb, cap, e, h1, h2, by omega, by omega, coresAt_same (fun _ _ => kill_keep hB hk) (by rw [kill_size, kill_size]; exact hs) _ _ _ h5⟩
theorem row_owns {B : Nat} {w : World} {v : Value} {n : Nat} (L : List (Cr × List Value)) (hL : ∀ p ∈ L, CrFrom B w p.1 p.2) (hn : n = L.length) (h0 : 0 < n) (h : w.ownsRow B 30 7 v n (L.flatMap (·.2))) : RowFrom B w v (L.map (·.1)) := by
  have h' : (killBelow B w).ownsRow B 30 7 v n (L.flatMap (·.2)) := by
    refine ⟨h.1, ?_⟩
    rcases h.2 with h2 | ⟨g, cap, cur, e, hb, hg, rest⟩
    · exact .inl h2
    · exact .inr ⟨g, cap, cur, e, hb, (kill_block hb).trans hg, rest⟩
  obtain ⟨g, cap, e, h1, h2, h3, h4, h5⟩ := coresAt_owns L hL hn h0 h'
  rw [kill_size] at h2
  subst hn
  exact ⟨g, cap, by rw [List.length_map]; exact e, by rw [List.length_map]; exact h3, by rw [List.length_map]; exact h4, h1, h2, h5⟩
theorem owns_lit {B : Nat} {w : World} {cs : List Value} (hc : cs.length = 7) (hB : B ≤ w.heap.size) : (w.alloc (.cells cs.toArray 30)).ownsRow B 30 7 (.slice (some ⟨w.heap.size, 0, none⟩) 1 1) 1 cs :=
  ⟨by rw [hc], .inr ⟨w.heap.size, 1, cs.toArray, rfl, hB, World.alloc_heap_new w _, Nat.le_refl _, by decide, by simp [hc], List.take_of_length_le (by simp [hc])⟩⟩
def CrFree (B : Nat) (w : World) (v : Value) (x : Cr) (cs : List Value) : Prop := ∃ g, v.ownBlock = some g ∧ CrFrom B (w.putObj g (.deferred none)) x cs
theorem CrFree.free {B : Nat} {w : World} {v : Value} {x : Cr} {cs : List Value} (h : CrFree B w v x cs) : CrFrom B w x cs := by
  obtain ⟨g, _, h⟩ := h
  refine Cr.at_same (fun p u hp => ?_) (by rw [kill_size, kill_size]; simp) x cs h
  obtain ⟨h1, h2⟩ := kill_cell hp
  rw [World.cell?_of_block (kill_block h1)]
  exact (put_cell h2).2
theorem CrFree.step {B : Nat} {w w' : World} {v v' : Value} {x : Cr} {cs : List Value} (h : CrFree B w v x cs) (hs : w.heap.size ≤ w'.heap.size) (hk : ∀ k, B ≤ k → k < w.heap.size → v.ownBlock ≠ some k → w'.heap[k]? = w.heap[k]?)
    (hv : v'.ownBlock = v.ownBlock ∨ ∃ g', v'.ownBlock = some g' ∧ w.heap.size ≤ g') : CrFree B w' v' x cs := by
  obtain ⟨g, hg, h⟩ := h
  obtain ⟨g', hg', hne⟩ : ∃ g', v'.ownBlock = some g' ∧ (g' = g ∨ w.heap.size ≤ g') := by
    rcases hv with hv | ⟨g', h1, h2⟩
    · exact ⟨g, by rw [hv, hg], .inl rfl⟩
    · exact ⟨g', h1, .inr h2⟩
  refine ⟨g', hg', Cr.at_same (fun p u hp => ?_) (by rw [kill_size, kill_size]; simpa using hs) x cs h⟩
  obtain ⟨h1, h2⟩ := kill_cell hp
  obtain ⟨h3, h4⟩ := put_cell h2
  have hlt := World.block_lt_of_cell? w _ h4
  rw [World.cell?_of_block (kill_block h1), World.cell?_of_block (put_block (by omega)), World.cell?_of_block (hk _ h1 hlt (fun e => h3 (by rw [hg] at e; injection e with e; exact e.symm)))]
  exact h4
theorem CrFree.new {B B2 g : Nat} {w w' : World} {v : Value} {x : Cr} {cs : List Value} (h : CrFrom B2 w x cs) (hB : B ≤ B2) (hs : w.heap.size ≤ w'.heap.size) (hk : ∀ k, B2 ≤ k → k < w.heap.size → w'.heap[k]? = w.heap[k]?) (hv : v.ownBlock = some g) (hg : g < B2 ∨ w.heap.size ≤ g) : CrFree B w' v x cs := by
  refine ⟨g, hv, Cr.at_same (fun p u hp => ?_) (by rw [kill_size, kill_size]; simpa using hs) x cs h⟩
  obtain ⟨h1, h2⟩ := kill_cell hp
  have hlt := World.block_lt_of_cell? w _ h2
  rw [World.cell?_of_block (kill_block (by omega)), World.cell?_of_block (put_block (by omega)), World.cell?_of_block (hk _ h1 hlt)]
  exact h2
theorem wpList_append_fresh {ops : Array Oper} {rest : List Oper} {o : Oper} {a : Act} {w : World} {Q : Exit → Act → World → Prop} (hgd : o.guard = none) (s x : Operand)
    (ho : o.op = .call { callee := .builtin .append, args := #[s, x], argTypes := #[28, 28] }) (base : Nat) (v : Value) (n : Nat) (xs : List Value) (hs : a.eval s = v)
    (hown : w.ownsRow base 30 7 v n xs) (b : Nat) (cs : List Value) (hx : a.eval x = .slice (some ⟨b, 0, none⟩) 1 1) (hc : Core7 w b 0 cs) (h1 : ∀ u ∈ cs, u.oneCell' = true) (hn : n < 1000000000000) (hn0 : 0 < n) (hbase : base ≤ w.heap.size)
    (h : ∀ v' w', w'.ownsRow base 30 7 v' (n + 1) (xs ++ cs) → w.grownBy w' v.ownBlock → (v'.ownBlock = v.ownBlock ∨ ∃ g', v'.ownBlock = some g' ∧ w.heap.size ≤ g') → wpList Tryz.prog ops Q rest (a.put o.dst v') w') : wpList Tryz.prog ops Q (o :: rest) a w := by
  obtain ⟨i0, hi, hz0, hz1, hz2⟩ := info_parts info_core
  have hnews : ∀ j u, cs[j]? = some u → w.cell? ((⟨b, 0, none⟩ : Addr).add j) = some u := by
    intro j u hj
    have hjl : j < 7 := by rw [← hc.1]; exact (List.getElem?_eq_some_iff.1 hj).1
    rw [addr_at, hc.2 j hjl, hj]
  have hl : cs.length = 1 * 7 := by rw [hc.1]
  obtain ⟨v', w', hr, h2, h3, _⟩ := run_append_own (P := Tryz.prog) w base 28 o.type 30 i0 zeroCore 7 72 Tryz.underlying28 hi hz0 hz1 hz2 rfl (by decide) v n xs hown ⟨b, 0, none⟩ 1 1 cs hl hnews h1 (by unfold maxLen; omega) (by omega) hbase
  have hfresh : v'.ownBlock = v.ownBlock ∨ ∃ g', v'.ownBlock = some g' ∧ w.heap.size ≤ g' := by
    rcases hown.2 with ⟨_, h0⟩ | ⟨g, cap, cur, rfl, _, hg, hnc, hcm, hcs, _⟩
    · omega
    · by_cases hroom : n + 1 ≤ cap
      · have hr2 := run_append_room (P := Tryz.prog) w 28 o.type 30 i0 Tryz.underlying28 hi g n cap cur hg ⟨b, 0, none⟩ 1 1 cs (by rw [hl, hz1]) hnews h1 hroom (by rw [hz1, hl, hcs]; omega)
        rw [hr] at hr2
        injection hr2 with e _
        rw [e]
        exact .inl rfl
      · have hr2 := run_append_grow (P := Tryz.prog) w 28 o.type 30 i0 zeroCore Tryz.underlying28 hi hz0 ⟨g, 0, none⟩ n cap xs (by rw [hown.1, hz1]) (hown.cells (g := g) rfl) ⟨b, 0, none⟩ 1 1 cs (by rw [hl, hz1]) hnews (by omega) (by omega) (growslice_fits (by omega) (by rw [hz2]; omega))
        rw [hr] at hr2
        injection hr2 with e _
        rw [e]
        exact .inr ⟨_, rfl, Nat.le_refl _⟩
  refine wpList_plain hgd fun _ hK => ?_
  unfold Oper.wp execOp
  simp only [ho, resolve, invoke, builtin, Sem.run_bind, Sem.run_pure, Result.andThen_ok, List.map_toArray, List.map_cons, List.map_nil, hs, hx, hr]
  exact hK _ _ (h v' w' h2 h3 hfresh)
end K
end Go.Proofs.YtlgpbgcheeaalaaGreatDoor
/-! core.visit: the nodes of a node, in the order in which they begin, as many as may be: what it does, of whatever rounds. -/
namespace Go.Proofs.YtlgpbgcheeaalaaGreatDoor
namespace K
set_option maxRecDepth 100000
open Go.RowKit Go.Shelf

attribute [local go_sem] Oper.semAt_some

/-! the nodes in the order in which they begin -/
mutual
def Cr.pre : Cr → List Cr
  | .mk k s n l => .mk k s n l :: pres l
def pres : List Cr → List Cr
  | [] => []
  | x :: l => x.pre ++ pres l
end
theorem pre_mk (k : Int) (s : BitVec 256) (n : Int) (l : List Cr) : (Cr.mk k s n l).pre = .mk k s n l :: pres l := by rw [Cr.pre]
theorem pres_cons (x : Cr) (l : List Cr) : pres (x :: l) = x.pre ++ pres l := by rw [pres]
theorem pres_nil : pres [] = [] := by rw [pres]
mutual
theorem Cr.pre_length : ∀ x : Cr, x.pre.length = x.count
  | .mk k s n l => by rw [pre_mk, count_mk, List.length_cons, pres_length l]; omega
theorem pres_length : ∀ l : List Cr, (pres l).length = counts l
  | [] => by rw [pres_nil, counts_nil]; rfl
  | x :: l => by rw [pres_cons, counts_cons, List.length_append, Cr.pre_length x, pres_length l]
end
theorem pres_append (l m : List Cr) : pres (l ++ m) = pres l ++ pres m := by
  induction l with
  | nil => rw [pres_nil]; rfl
  | cons x l ih => rw [List.cons_append, pres_cons, pres_cons, ih, List.append_assoc]
theorem counts_append (l m : List Cr) : counts (l ++ m) = counts l + counts m := by
  rw [← pres_length, ← pres_length, ← pres_length, pres_append, List.length_append]
/-- a node with its cells, in a world -/
abbrev NV (W0 : World) := { p : Cr × List Value // Cr.at W0 p.1 p.2 }
/-- the nodes that have come -/
def nds {W0 : World} (q : List (NV W0)) : List Cr := q.map (·.1.1)
theorem nds_append {W0 : World} (q r : List (NV W0)) : nds (q ++ r) = nds q ++ nds r := List.map_append
/-- as far as the first j nodes in a node reach -/
def fore (x : Cr) (j left : Nat) : List Cr := (x :: pres (x.nodes.take j)).take left
theorem fore_zero (x : Cr) {left : Nat} (h : 1 ≤ left) : fore x 0 left = [x] := by
  unfold fore
  rw [List.take_zero, pres_nil, List.take_of_length_le (by simpa using h)]
theorem fore_all (x : Cr) (left : Nat) : fore x x.nodes.length left = x.pre.take left := by
  unfold fore
  rw [List.take_length]
  cases x with
  | mk k s n l => rw [pre_mk]; rfl
theorem counts_take_le (l : List Cr) (j : Nat) : counts (l.take j) ≤ counts l := by
  have h := counts_append (l.take j) (l.drop j)
  rw [List.take_append_drop] at h
  omega
theorem fore_full (x : Cr) (j left : Nat) (h : left ≤ 1 + counts (x.nodes.take j)) : fore x j left = x.pre.take left := by
  unfold fore
  have hp : x.pre = (x :: pres (x.nodes.take j)) ++ pres (x.nodes.drop j) := by
    rw [List.cons_append, ← pres_append, List.take_append_drop]
    cases x with
    | mk k s n l => rw [pre_mk]; rfl
  rw [hp, List.take_append_of_le_length (by rw [List.length_cons, pres_length]; omega)]
theorem take_succ_counts (l : List Cr) (j : Nat) (hj : j < l.length) : counts (l.take (j + 1)) = counts (l.take j) + l[j].count := by
  rw [List.take_succ_eq_append_getElem hj, counts_append, counts_cons, counts_nil]; rfl
theorem fore_succ (x : Cr) (j left : Nat) (hj : j < x.nodes.length) :
    fore x (j + 1) left = fore x j left ++ (x.nodes[j].pre).take (left - (1 + counts (x.nodes.take j))) := by
  unfold fore
  rw [List.take_succ_eq_append_getElem hj, pres_append, pres_cons, pres_nil, List.append_nil, ← List.cons_append, List.take_append]
  rw [List.length_cons, pres_length, Nat.add_comm (counts _) 1]
theorem fore_prefix (x : Cr) (j left : Nat) : fore x j left <+: x.pre.take left := by
  unfold fore
  have hp : x.pre = (x :: pres (x.nodes.take j)) ++ pres (x.nodes.drop j) := by
    rw [List.cons_append, ← pres_append, List.take_append_drop]
    cases x with
    | mk k s n l => rw [pre_mk]; rfl
  rw [hp, List.take_append]
  exact List.prefix_append _ _
theorem fore_length (x : Cr) (j left : Nat) : (fore x j left).length = min left (1 + counts (x.nodes.take j)) := by
  unfold fore
  rw [List.length_take, List.length_cons, pres_length]; omega
theorem nums_len {left c p qn : Nat} (hp : ¬ p = 0) (hp' : p = left - (1 + c)) (h : qn = min left (1 + c)) : qn = 1 + c := by omega
theorem nums_fit {left c p N a : Nat} (hp : ¬ p = 0) (hp' : p = left - (1 + c)) (h : a + left ≤ N) : a + (1 + c) + p ≤ N := by omega
theorem nums_le {left c p : Nat} (hp' : p = left - (1 + c)) (h : left ≤ 100000) : p ≤ 100000 := by omega
theorem nums_next {left c p d e : Nat} (h1 : e = c + d) (h2 : p = left - (1 + c)) : p - d = left - (1 + e) := by omega
/-- what a call of visit ends in -/
def VisitPost {W0 : World} (J Jx : List (NV W0) → World → Prop) (x : Cr) (pre : List (NV W0)) (left : Nat) (e : Ending) (W' : World) : Prop :=
  (∃ q : List (NV W0), nds q = x.pre.take left ∧ e = .returned (.int .i64 ((left - x.count : Nat) : Int)) ∧ J (pre ++ q) W') ∨
  (e = .returned (.int .i64 0) ∧ ∃ q : List (NV W0), nds q <+: x.pre.take left ∧ Jx (pre ++ q) W')
set_option maxRecDepth 100000 in
set_option maxHeartbeats 2000000 in
theorem visit_in (l : Nat) (W0 : World) (N B : Nat) (J Jx : List (NV W0) → World → Prop) (hJ : AbidesFrom B J) (hJx : AbidesFrom B Jx)
    (hJb : ∀ pre W', J pre W' → Below W0.heap.size W0 W') (hJxb : ∀ pre W', Jx pre W' → Below W0.heap.size W0 W')
    (hY : ∀ m pre (x : NV W0) W1 o, J pre W1 → o.isCells = true → pre.length < N → YieldAt Fence.wide m Tryz.prog l #[.agg x.1.2.toArray] (W1.alloc o) fun e W' =>
      ((e = .returned (.bool true) ∧ J (pre ++ [x]) W') ∨ (e = .returned (.bool false) ∧ Jx (pre ++ [x]) W')) ∧ W'.heap[W1.heap.size]? = some o) :
    ∀ (m : Nat) (x : Cr), x.count ≤ m → ∀ (n : Nat) (cs : List Value) (pre : List (NV W0)) (W : World) (left : Nat), Cr.at W0 x cs → J pre W → 1 ≤ left → left ≤ 100000 → pre.length + left ≤ N →
      CallsIn Fence.wide n Tryz.prog 57 #[.agg cs.toArray, .int .i64 left, .func (.yield l) #[] #[]] W (VisitPost J Jx x pre left)
  | 0, x, hm => by have := Cr.count_pos x; omega
  | m + 1, .mk k s nn ls, hm => by
    intro n cs pre W left hat hj h1 hle hN
    have ih := visit_in l W0 N B J Jx hJ hJx hJb hJxb hY m
    have hat' := hat
    rw [at_mk] at hat
    obtain ⟨_, _, a, cap, hcs, hmax, hl⟩ := hat
    have hy := hY (n - 1) pre ⟨(.mk k s nn ls, cs), hat'⟩ W (.cells cs.toArray 30) hj rfl (by omega)
    subst hcs
    obtain ⟨fn, tmps, assign, body, hyr, hR⟩ := hy
    have hR' := hR.mono (R' := fun e W' => (e = .returned (.bool true) ∧ J (pre ++ [⟨(.mk k s nn ls, _), hat'⟩]) W' ∧ W'.cell? ⟨W.heap.size, 6, none⟩ = some (.slice a ls.length cap)) ∨ (e = .returned (.bool false) ∧ Jx (pre ++ [⟨(.mk k s nn ls, _), hat'⟩]) W'))
      (fun e W' h => h.1.elim (fun h1 => .inl ⟨h1.1, h1.2, by simp [World.cell?, h.2]⟩) .inr)
    clear hR
    have hmore : decide ((1 : Int) = ((left : Nat) : Int)) = decide (left = 1) := by
      by_cases h : left = 1
      · subst h; rfl
      · rw [decide_eq_false h, decide_eq_false (by omega)]
    have hmx : ls.length ≤ 9223372036854775807 := Nat.le_trans hmax (by decide)
    have hdd : ∀ k : Nat, (Fence.wide.depth.isSome = true → 1 ≤ k) := fun k h => by cases h
    have hx0 : nds (W0 := W0) [⟨(.mk k s nn ls, _), hat'⟩] = fore (.mk k s nn ls) 0 left := by rw [fore_zero _ h1]; rfl
    generalize (⟨(.mk k s nn ls, _), hat'⟩ : NV W0) = x0 at hR' hx0
    dsimp only at hyr
    obtain ⟨X, hX⟩ : ∃ X : Cr, X = .mk k s nn ls := ⟨_, rfl⟩
    have hXn : X.nodes = ls := by rw [hX]; rfl
    have hXc : X.count = 1 + counts ls := by rw [hX, count_mk]
    rw [← hX] at hx0 hm ⊢
    have HX := Lib.hid hX
    have HXn := Lib.hid hXn
    have HXc := Lib.hid hXc
    have Hx0 := Lib.hid hx0
    clear hX hXn hXc hx0 hat'
    refine callsIn_of_wp Tryz.func57 rfl trivial ?_ rfl
    simp only [Tryz.ntmps57, List.size_toArray, List.length_cons, List.length_nil, Nat.reduceAdd, Nat.reduceSub, Array.replicate_succ, Array.replicate_zero, List.push_toArray, List.append_toArray, List.nil_append, List.cons_append]
    gi_wp2_with ((try refine ⟨hdd _, ?_⟩); refine hR'.mono ?_; clear hR'; rintro e W2 (⟨rfl, hJ2, c8⟩ | ⟨rfl, hx2⟩))
    · clear c8 hyr
      refine wpIn_wide.2 ?_
      go_loopw [1, 18] (fun v i wr => ∃ (j p : Nat), v = .int .i64 p ∧ i = .int .i64 j ∧ j ≤ ls.length ∧ ((∃ q, nds q = fore X j left ∧ p = left - (1 + counts (ls.take j)) ∧ J (pre ++ q) wr) ∨ (p = 0 ∧ ∃ q, nds q <+: X.pre.take left ∧ Jx (pre ++ q) wr))) (fun _ i _ => ls.length - (intOf i).toNat)
      case atStart =>
        refine ⟨0, left - 1, congrArg (Value.int .i64) (by omega), rfl, Nat.zero_le _, .inl ⟨[x0], Hx0.out, ?_, hJ2⟩⟩
        rw [List.take_zero, counts_nil]
      case round =>
        obtain ⟨j, p, rfl, rfl, hjl, hrel⟩ := hrel
        by_cases hjn : j < ls.length
        · have hdj : decide ((j : Int) < ls.length) = true := by simp; omega
          rcases hl with hl | ⟨b, off, rfl, hcap, hbw, hnodes⟩
          · omega
          obtain ⟨cs, hcs, hcell, hchild⟩ := nodes_get W0 b ls off hnodes j hjn
          have hbel : Below W0.heap.size W0 wr := hrel.elim (fun ⟨_, _, _, h⟩ => hJb _ _ h) (fun ⟨_, _, _, h⟩ => hJxb _ _ h)
          have h9 : Core7 wr b (off + j * 7) cs := ⟨hcs, fun q hq => by rw [hbel.cell (p := ⟨b, off + j * 7 + q, none⟩) hbw]; exact hcell q hq⟩
          have hcount : ls[j].count ≤ m := by
            have h1 := HXc.out
            have h2 := counts_mem (List.getElem_mem hjn)
            omega
          have hstep : fore X (j + 1) left = fore X j left ++ (ls[j].pre).take (left - (1 + counts (ls.take j))) := by
            have e := HX.out
            subst e
            exact fore_succ (.mk k s nn ls) j left hjn
          have hcnt := take_succ_counts ls j hjn
          have hful : left ≤ 1 + counts (ls.take j) → fore X j left = X.pre.take left := fun h => by
            have e := HX.out
            subst e
            exact fore_full (.mk k s nn ls) j left h
          have hful2 : 1 + counts (ls.take j) ≤ X.count := by
            rw [HXc.out]; have := counts_take_le ls j; omega
          have hlen : (fore X j left).length = min left (1 + counts (ls.take j)) := by
            have e := HX.out
            subst e
            exact fore_length _ _ _
          have hpre : ∀ t : List Cr, t <+: fore X (j + 1) left → t <+: X.pre.take left := fun t h => h.trans (fore_prefix _ _ _)
          generalize hch : ls[j] = ch at hchild hcount hstep hcnt
          have hchild' := hchild
          cases ch with
          | mk k' s' nn' ls' =>
            rw [at_mk] at hchild
            obtain ⟨_, _, a', cap', hcs', _, _⟩ := hchild
            subst hcs'
            generalize hX' : Cr.mk k' s' nn' ls' = ch at hchild' hcount hstep hcnt
            clear hcell hnodes hX' hch
            by_cases hp : p = 0
            · have hdp : ((p : Int) == 0) = true := by simp [hp]
              have Hrel := Lib.hid hrel
              have Hp := Lib.hid hp
              have Hful := Lib.hid hful
              have Hful2 := Lib.hid hful2
              clear hrel hp hstep hcnt hful hful2 hlen hpre hbel ih
              go_wp2_with (first | (refine wpList_load_core rfl _ rfl b (off + j * 7) _ rfl h9 ?_) | fail)
              gi_wp2
              go_ret
              rcases Hrel.out with ⟨q, hq, hp', hjq⟩ | ⟨_, q, hq, hjq⟩
              · have hle1 : left ≤ 1 + counts (ls.take j) := by have := Hp.out; omega
                refine .inl ⟨q, by rw [hq, Hful.out hle1], ?_, abides_still hJ hjq ((Below.refl _ _).alloc (Nat.le_refl _) _)⟩
                rw [Hp.out, show left - X.count = 0 from by have := Hful2.out; omega]; rfl
              · exact .inr ⟨by rw [Hp.out]; rfl, q, hq, abides_still hJx hjq ((Below.refl _ _).alloc (Nat.le_refl _) _)⟩
            · have hdp : ((p : Int) == 0) = false := by simp; omega
              rcases hrel with ⟨q, hq, hp', hjq⟩ | ⟨h0, _⟩
              rotate_left 1
              · exact absurd h0 hp
              have hql : q.length = 1 + counts (ls.take j) := by
                have h := congrArg List.length hq
                rw [hlen] at h
                simp only [nds, List.length_map] at h
                exact nums_len hp hp' h
              have hp1 : 1 ≤ p := Nat.pos_of_ne_zero hp
              have hp2 : p ≤ 100000 := nums_le hp' hle
              have hp3 : (pre ++ q).length + p ≤ N := by rw [List.length_append, hql]; exact nums_fit hp hp' hN
              have hcall := fun o : Obj => callsIn_wide.1 (ih ch hcount 1 _ (pre ++ q) (wr.alloc o) p hchild' (abides_still hJ hjq ((Below.refl _ _).alloc (Nat.le_refl _) _)) hp1 hp2 hp3)
              have Hq := Lib.hid hq
              have Hp := Lib.hid hp'
              have Hstep := Lib.hid hstep
              have Hcnt := Lib.hid hcnt
              have Hpre := Lib.hid hpre
              clear hp1 hp2 hp3 hp hp' hstep hcnt hful hful2 hlen hpre hbel ih hq hql hjq hchild' hcount
              go_wp2_with (first | (refine wpList_load_core rfl _ rfl b (off + j * 7) _ rfl h9 ?_) | (go_at_call 57; refine (hcall _).mono ?_; clear hcall; rintro e w3 (⟨q', hq', rfl, hj'⟩ | ⟨rfl, q', hq', hj'⟩)) | fail)
              · go_roundw
                case rel =>
                  refine ⟨j + 1, p - ch.count, rfl, by go_num, Nat.succ_le_of_lt hjn, .inl ⟨q ++ q', ?_, ?_, by rw [← List.append_assoc]; exact hj'⟩⟩
                  · rw [nds_append, Hq.out, hq', Hstep.out, Hp.out]
                  · exact nums_next Hcnt.out Hp.out
                case measure => simp [intOf]; omega
              · go_roundw
                case rel =>
                  refine ⟨j + 1, 0, rfl, by go_num, Nat.succ_le_of_lt hjn, .inr ⟨rfl, q ++ q', ?_, by rw [← List.append_assoc]; exact hj'⟩⟩
                  apply Hpre.out
                  rw [nds_append, Hq.out, Hstep.out, ← Hp.out]
                  exact (List.prefix_append_right_inj _).mpr hq'
                case measure => simp [intOf]; omega
        · obtain rfl : j = ls.length := by omega
          have hdj : decide ((ls.length : Int) < ls.length) = false := by simp
          have Hrel := Lib.hid hrel
          clear hrel hl ih
          go_wp2_with fail
          gi_wp2
          go_ret
          rcases Hrel.out with ⟨q, hq, hp, hjq⟩ | ⟨hp, q, hq, hjq⟩
          · refine .inl ⟨q, ?_, ?_, hjq⟩
            · rw [hq]
              have e := HX.out
              subst e
              exact fore_all (.mk k s nn ls) left
            · rw [hp, List.take_length, HXc.out]; rfl
          · exact .inr ⟨by rw [hp]; rfl, q, hq, hjq⟩
    · go_ret
      refine .inr ⟨rfl, [x0], ?_, hx2⟩
      rw [Hx0.out]; exact fore_prefix _ _ _
end K
end Go.Proofs.YtlgpbgcheeaalaaGreatDoor
/-! core.parts: the nodes of a node as a sequence; core.Size, walked. -/
namespace Go.Proofs.YtlgpbgcheeaalaaGreatDoor
namespace K
set_option maxRecDepth 100000
open Go.RowKit Go.Shelf

attribute [local go_sem] Oper.semAt_some

theorem nodes_held {W0 w0 : World} {x : Cr} {cs : List Value} (hat : Cr.at W0 x cs) (hb0 : Below W0.heap.size W0 w0) {Bx : Nat} (hBx : Bx < w0.heap.size) (h9 : Core7 w0 Bx 0 cs) :
    SeqHeld Tryz.prog 56 #[.pointer (some ⟨Bx, 0, none⟩)] (fun p : NV W0 => .agg p.1.2.toArray) W0.heap.size w0 (fun q => nds q = x.pre.take 100000) (fun q => nds q <+: x.pre.take 100000) 100000 := by
  intro l J Jx W hW hW2 hJ hJx hJb hJxb hY h0 m
  have hv := visit_in l W0 100000 W.heap.size J Jx hJ hJx (fun pre W' h => hb0.trans (hJb pre W' h)) (fun pre W' h => hb0.trans (hJxb pre W' h)) hY x.count x (Nat.le_refl _) 1 cs [] W 100000 hat h0 (by decide) (Nat.le_refl _) (by simp)
  have hv := callsIn_wide.1 hv
  have h9' : Core7 W Bx 0 cs := ⟨h9.1, fun q hq => by rw [hW2.cell (p := ⟨Bx, 0 + q, none⟩) hBx]; exact h9.2 q hq⟩
  refine callsIn_of_wp Tryz.func56 rfl trivial ?_ rfl
  simp only [Tryz.ntmps56, List.size_toArray, List.length_cons, List.length_nil, Nat.reduceAdd, Nat.reduceSub, Array.replicate_succ, Array.replicate_zero, List.push_toArray, List.append_toArray, List.nil_append, List.cons_append]
  refine wpIn_wide.2 ?_
  go_wp2_with (first | (refine wpList_load_core rfl _ rfl Bx 0 cs rfl h9' ?_) | (go_at_call 57; refine hv.mono ?_; clear hv; rintro e w3 (⟨q, hq, rfl, hj⟩ | ⟨rfl, q, hq, hj⟩)) | fail)
  · go_end0
    exact ⟨⟨_, rfl⟩, .inl ⟨q, hq, hj⟩⟩
  · go_end0
    exact ⟨⟨_, rfl⟩, .inr ⟨q, hq, hj⟩⟩
/-- core.parts: the node lies in a block of its own -/
theorem nodes_walk {x : Cr} {cs : List Value} {w : World} (hat : Cr.at w x cs) (w' : World) :
    Calls Tryz.prog 31 #[.agg cs.toArray] w' fun e w'' => e = .returned (.func (.func 56) #[] #[.pointer (some ⟨w'.heap.size, 0, none⟩)]) ∧ w'' = w'.alloc (.cells cs.toArray 30) := by
  cases x with
  | mk k s n l =>
    rw [at_mk] at hat
    obtain ⟨_, _, a, cap, rfl, _, _⟩ := hat
    go_enter Tryz.func31, Tryz.ntmps31
    go_wp2_with fail
    go_ret
    exact ⟨rfl, rfl⟩
set_option maxRecDepth 100000 in
set_option maxHeartbeats 2000000 in
theorem size_walk {x : Cr} {cs : List Value} {w : World} (hat : Cr.at w x cs) :
    Calls Tryz.prog 15 #[.agg cs.toArray] w fun e w' => e = .returned (.int .i64 (sizeOfC x : Int)) ∧ Below w.heap.size w w' := by
  have hcs : ∃ k s n a len cap, cs = [.int .i64 k, .int .u64 (word s 0), .int .u64 (word s 1), .int .u64 (word s 2), .int .u64 (word s 3), .int .i64 n, .slice a len cap] := by
    cases x with
    | mk k s n l =>
      rw [at_mk] at hat
      obtain ⟨_, _, a, cap, hcs, _, _⟩ := hat
      exact ⟨_, _, _, _, _, _, hcs⟩
  have hno := fun w' => (callsIn_wide (n := 2)).2 (nodes_walk hat w')
  obtain ⟨k, s, n, a, len, cap, hcs⟩ := hcs
  obtain ⟨w0, hw0⟩ : ∃ w0, w0 = ((w.alloc (.cells cs.toArray 30)).alloc (.cells #[.int .i64 0] 3)).alloc (.cells cs.toArray 30) := ⟨_, rfl⟩
  have hs0 : w0.heap.size = w.heap.size + 3 := by rw [hw0]; simp
  have hb0 : Below w.heap.size w w0 := by
    rw [hw0]
    exact (((Below.refl _ _).alloc (Nat.le_refl _) _).alloc (by simp) _).alloc (by simp; omega) _
  have h9 : Core7 w0 (w.heap.size + 1 + 1) 0 cs := by
    have h := World.alloc_heap_new ((w.alloc (.cells cs.toArray 30)).alloc (.cells #[.int .i64 0] 3)) (.cells cs.toArray 30)
    rw [← hw0] at h
    simp only [World.size_alloc] at h
    refine ⟨by rw [hcs]; rfl, fun q hq => ?_⟩
    simp [World.cell?, h]
  have hvar : Var w0 (w.heap.size + 1) (.int .i64 0) 3 := by
    rw [hw0]
    have h := Var.new (w.alloc (.cells cs.toArray 30)) (.int .i64 0) 3
    rw [World.size_alloc] at h
    exact h.alloc _
  have hheld := nodes_held hat hb0 (Bx := w.heap.size + 1 + 1) (by omega) h9
  refine (callsIn_wide (n := 3)).1 ?_
  refine callsIn_of_wp_marks Tryz.func15 rfl trivial ?_ rfl
  subst hcs
  simp only [Tryz.ntmps15, List.size_toArray, List.length_cons, List.length_nil, Nat.reduceAdd, Nat.reduceSub, Array.replicate_succ, Array.replicate_zero, List.push_toArray, List.append_toArray, List.nil_append, List.cons_append]
  gi_wp2_with ((try refine ⟨trivial, ?_⟩); gi_at_call 31; refine (hno _).mono ?_; clear hno; rintro e w' ⟨rfl, rfl⟩)
  rw [← hw0]
  clear hw0 h9 hat
  refine wp_range_held (w := w0) rfl (enters_of Tryz.func56 (by kernel_rfl) rfl) hheld hb0.size (Below.refl _ _)
    (fun pre W => Var W (w.heap.size + 1) (.int .i64 (pre.length : Int)) 3 ∧ Below w.heap.size w0 W) (fun _ _ _ => False)
    (fun q A B row hs hg hr => ⟨Var.own _ _ _ _ () A B row hs.1 hg hr, ownFrom_below (β := Unit) hb0.size hb0.size () A B row hs.2 hg hr⟩) (fun _ _ _ _ _ h _ _ => h)
    (fun _ _ h => h.2) (fun _ _ _ h => h.elim) ⟨hvar, Below.refl _ _⟩ ?turn ?done ?stop
  case turn =>
    intro l m pre x W o K hi ho hlen hlt hK
    gi_wp2
    refine hK _ _ (KeepsFrom.refl _ _) fun W3 hto hs3 => ?_
    have v3 := hto _ (Var.own _ _ _ _) (hi.1.alloc o)
    have b3 := hto _ (ownFrom_below (β := Unit) hb0.size hb0.size) (hi.2.alloc (by omega) o)
    have k3 := hto _ (ownFrom_block _ _ _ ho) (World.alloc_heap_new W o)
    have hlt1 := hi.1.lt
    obtain ⟨c3, f3⟩ := v3.cell
    clear hK hto hi hheld
    have B3 := Lib.hid b3
    have K3 := Lib.hid k3
    have V3 := Lib.hid v3
    clear b3 k3 v3
    gi_wp2
    refine ⟨⟨(KeepsOthers.setCell _ _ _).from _, (Below.heap_setCell _ _ _ _ (by show W.heap.size ≠ w.heap.size + 1; omega)).trans K3.out⟩, ?_, B3.out.setCell (p := ⟨w.heap.size + 1, 0, none⟩) (Nat.le_succ _) _⟩
    have h := V3.out.set (.int .i64 ((pre.length : Int) + 1))
    rw [show (((pre ++ [x]).length : Nat) : Int) = (pre.length : Int) + 1 from by simp]
    exact h
  case done =>
    rintro D ys W hD hS ⟨hv, hb⟩ hk
    obtain ⟨c3, f3⟩ := hv.cell
    have hlen : (ys.length : Int) = (sizeOfC x : Int) := by
      have h := congrArg List.length hS
      rw [List.length_take, Cr.pre_length] at h
      simp only [nds, List.length_map] at h
      unfold sizeOfC
      omega
    have Hlen := Lib.hid hlen
    clear hlen hS
    gi_wp2
    refine ⟨by simp, .inl ⟨_, _, rfl, run_takeDeferred hk, ?_⟩⟩
    refine ⟨_, results_tmp rfl _ _ _, ?_, (hb0.trans hb).trans (belowK_b (w := w) (Nat.le_refl _) W D _ _ (by omega) hk rfl rfl)⟩
    rw [← Hlen.out]
    rfl
  case stop =>
    rintro D c pre W _ _ h _
    exact h.elim
end K
end Go.Proofs.YtlgpbgcheeaalaaGreatDoor
/-! core.blank, core.formed, core.Good, walked. -/
namespace Go.Proofs.YtlgpbgcheeaalaaGreatDoor
namespace K
set_option maxRecDepth 100000
open Go.RowKit Go.Shelf

attribute [local go_sem] Oper.semAt_some

def blankC (k : Int) (s : BitVec 256) (n : Int) : Bool := (k == 2 || decide (s = 0)) && (k == 6 || n == 0)
theorem blank_walk (k : Int) (s : BitVec 256) (n : Int) (a : Option Addr) (len cap : Nat) (w : World) :
    Calls Tryz.prog 32 #[.agg #[.int .i64 k, .int .u64 (word s 0), .int .u64 (word s 1), .int .u64 (word s 2), .int .u64 (word s 3), .int .i64 n, .slice a len cap]] w
      fun e w' => e = .returned (.bool (blankC k s n)) ∧ Below w.heap.size w w' := by
  have hlen := len_any s
  have h2 : (((elems s).length : Int) == 0) = decide (s = 0) := by rw [Bool.eq_iff_iff, beq_iff_eq, decide_eq_true_eq]; exact elems_zero_iff s
  generalize ((elems s).length : Int) = E at *
  unfold blankC
  generalize decide (s = 0) = b2 at *
  cases h1 : (k == 2) <;> cases b2 <;> cases h6 : (k == 6) <;> cases h7 : (n == 0) <;> (
    go_enter Tryz.func32, Tryz.ntmps32
    go_wp2_with (go_at_call 58; refine (hlen _).mono ?_; clear hlen; rintro e w2 ⟨rfl, hb⟩; have hcell := box_cell hb; have hb' := Lib.hid hb; clear hb)
    go_ret
    first
      | exact ⟨rfl, (Below.refl _ _).alloc (Nat.le_refl _) _⟩
      | exact ⟨rfl, box_below hb'.out⟩)
def formedC (k n : Int) (len : Nat) : Bool := if k = 0 ∨ k = 1 ∨ k = 2 then decide (len = 0) else if k = 3 ∨ k = 4 then decide (len = 2) else if k = 5 ∨ k = 7 then decide (len = 1) else if k = 6 then decide (len = 1) && decide (1 ≤ n) && decide (n ≤ 32) else false
theorem partOk_eq (k : Int) (s : BitVec 256) (n : Int) (len : Nat) : partOk k s n len = (blankC k s n && formedC k n len) := rfl
set_option maxHeartbeats 2000000 in
theorem formed_walk (k : Int) (s : BitVec 256) (n : Int) (a : Option Addr) (len cap : Nat) (w : World) :
    Calls Tryz.prog 33 #[.agg #[.int .i64 k, .int .u64 (word s 0), .int .u64 (word s 1), .int .u64 (word s 2), .int .u64 (word s 3), .int .i64 n, .slice a len cap]] w
      fun e w' => e = .returned (.bool (formedC k n len)) ∧ Below w.heap.size w w' := by
  have hl0 : ((len : Int) == 0) = decide (len = 0) := by rw [Bool.eq_iff_iff]; simp
  have hl1 : ((len : Int) == 1) = decide (len = 1) := by rw [Bool.eq_iff_iff, beq_iff_eq, decide_eq_true_eq]; omega
  have hl2 : ((len : Int) == 2) = decide (len = 2) := by rw [Bool.eq_iff_iff, beq_iff_eq, decide_eq_true_eq]; omega
  unfold formedC
  generalize decide (len = 0) = b0 at *
  generalize decide (len = 1) = b1 at *
  generalize decide (len = 2) = b2 at *
  by_cases h0 : k = 0
  · subst h0
    rw [if_pos (by decide)]
    go_enter Tryz.func33, Tryz.ntmps33
    go_wp2_with fail
    go_ret
    exact ⟨rfl, (Below.refl _ _).alloc (Nat.le_refl _) _⟩
  by_cases h1 : k = 1
  · subst h1
    rw [if_pos (by decide)]
    go_enter Tryz.func33, Tryz.ntmps33
    go_wp2_with fail
    go_ret
    exact ⟨rfl, (Below.refl _ _).alloc (Nat.le_refl _) _⟩
  by_cases h2 : k = 2
  · subst h2
    rw [if_pos (by decide)]
    go_enter Tryz.func33, Tryz.ntmps33
    go_wp2_with fail
    go_ret
    exact ⟨rfl, (Below.refl _ _).alloc (Nat.le_refl _) _⟩
  by_cases h3 : k = 3
  · subst h3
    rw [if_neg (by decide), if_pos (by decide)]
    go_enter Tryz.func33, Tryz.ntmps33
    go_wp2_with fail
    go_ret
    exact ⟨rfl, (Below.refl _ _).alloc (Nat.le_refl _) _⟩
  by_cases h4 : k = 4
  · subst h4
    rw [if_neg (by decide), if_pos (by decide)]
    go_enter Tryz.func33, Tryz.ntmps33
    go_wp2_with fail
    go_ret
    exact ⟨rfl, (Below.refl _ _).alloc (Nat.le_refl _) _⟩
  by_cases h5 : k = 5
  · subst h5
    rw [if_neg (by decide), if_neg (by decide), if_pos (by decide)]
    go_enter Tryz.func33, Tryz.ntmps33
    go_wp2_with fail
    go_ret
    exact ⟨rfl, (Below.refl _ _).alloc (Nat.le_refl _) _⟩
  by_cases h7 : k = 7
  · subst h7
    rw [if_neg (by decide), if_neg (by decide), if_pos (by decide)]
    go_enter Tryz.func33, Tryz.ntmps33
    go_wp2_with fail
    go_ret
    exact ⟨rfl, (Below.refl _ _).alloc (Nat.le_refl _) _⟩
  by_cases h6 : k = 6
  · subst h6
    rw [if_neg (by decide), if_neg (by decide), if_neg (by decide), if_pos rfl]
    generalize ha : decide (1 ≤ n) = c1
    generalize hb : decide (n ≤ 32) = c2
    cases b1 <;> cases c1 <;> cases c2 <;> (
      go_enter Tryz.func33, Tryz.ntmps33
      go_wp2_with fail
      go_ret
      exact ⟨rfl, (Below.refl _ _).alloc (Nat.le_refl _) _⟩)
  · rw [if_neg (by omega), if_neg (by omega), if_neg (by omega), if_neg h6]
    have e0 : (k == 0) = false := by simp [h0]
    have e1 : (k == 1) = false := by simp [h1]
    have e2 : (k == 2) = false := by simp [h2]
    have e3 : (k == 3) = false := by simp [h3]
    have e4 : (k == 4) = false := by simp [h4]
    have e5 : (k == 5) = false := by simp [h5]
    have e6 : (k == 6) = false := by simp [h6]
    have e7 : (k == 7) = false := by simp [h7]
    clear h0 h1 h2 h3 h4 h5 h6 h7
    go_enter Tryz.func33, Tryz.ntmps33
    go_wp2_with fail
    go_ret
    exact ⟨rfl, (Below.refl _ _).alloc (Nat.le_refl _) _⟩
/-! Good, over the parts in their order -/
mutual
theorem form_pre : ∀ x : Cr, x.form = x.pre.all Cr.ok
  | .mk k s n l => by rw [form_mk, pre_mk, List.all_cons, forms_pres l]; rfl
theorem forms_pres : ∀ l : List Cr, forms l = (pres l).all Cr.ok
  | [] => by rw [forms_nil, pres_nil]; rfl
  | x :: l => by rw [forms_cons, pres_cons, List.all_append, form_pre x, forms_pres l]
end
theorem good_stop {x : Cr} {l : List Cr} (hp : l <+: x.pre.take 100000) (h : 2000 < l.length ∨ l.all Cr.ok = false) : goodC x = false := by
  have hp2 : l <+: x.pre := hp.trans (List.take_prefix _ _)
  unfold goodC
  rcases h with h | h
  · have := hp2.length_le
    rw [Cr.pre_length] at this
    rw [decide_eq_false (by omega), Bool.false_and]
  · obtain ⟨m, hm⟩ := hp2
    rw [form_pre, ← hm, List.all_append, h, Bool.false_and, Bool.and_false]
theorem good_done {x : Cr} {l : List Cr} (hp : l = x.pre.take 100000) (h1 : l.length ≤ 2000) (h2 : l.all Cr.ok = true) : goodC x = true := by
  have hl := congrArg List.length hp
  rw [List.length_take, Cr.pre_length] at hl
  have hc : x.count ≤ 2000 := by omega
  rw [List.take_of_length_le (by rw [Cr.pre_length]; omega)] at hp
  unfold goodC
  rw [form_pre, ← hp, h2, decide_eq_true hc]; rfl
def GoodI (w w0 : World) (pre : List (NV w)) (W : World) : Prop :=
  Var W (w.heap.size + 1) (.bool false) 4 ∧ Var W (w.heap.size + 2) (.int .i64 (pre.length : Int)) 3 ∧ pre.length ≤ 2000 ∧ (nds pre).all Cr.ok = true ∧ Below w.heap.size w0 W
def GoodX (w w0 : World) (c : Code) (pre : List (NV w)) (W : World) : Prop :=
  c = .ret ∧ (2000 < (nds pre).length ∨ (nds pre).all Cr.ok = false) ∧ Var W (w.heap.size + 1) (.bool false) 4 ∧ Below w.heap.size w0 W
theorem GoodI.own {w w0 : World} (hw : w.heap.size ≤ w0.heap.size) : OwnFrom w0.heap.size (GoodI w w0) := by
  rintro q A B row ⟨h1, h2, h3, h4, h6⟩ hg hr
  exact ⟨Var.own _ _ _ _ () A B row h1 hg hr, Var.own _ _ _ _ () A B row h2 hg hr, h3, h4, ownFrom_below (β := Unit) hw hw () A B row h6 hg hr⟩
theorem GoodX.own {w w0 : World} (hw : w.heap.size ≤ w0.heap.size) (c : Code) : OwnFrom w0.heap.size (GoodX w w0 c) := by
  rintro q A B row ⟨h1, h2, h3, h4⟩ hg hr
  exact ⟨h1, h2, Var.own _ _ _ _ () A B row h3 hg hr, ownFrom_below (β := Unit) hw hw () A B row h4 hg hr⟩
/-- what stays through a round -/
def RoundG (w w0 : World) (bo bx : Nat) (o X : Obj) (v : Value) (W : World) : Prop :=
  Var W (w.heap.size + 1) (.bool false) 4 ∧ Var W (w.heap.size + 2) v 3 ∧ W.heap[bo]? = some o ∧ W.heap[bx]? = some X ∧ Below w.heap.size w0 W
theorem RoundG.still {w w0 : World} {bo bx : Nat} {o X : Obj} {v : Value} {W W' : World} (h : RoundG w w0 bo bx o X v W) (hn : w.heap.size ≤ W.heap.size) (hb : Below W.heap.size W W') : RoundG w w0 bo bx o X v W' :=
  ⟨h.1.below hb h.1.lt, h.2.1.below hb h.2.1.lt, block_below h.2.2.1 hb (block_lt h.2.2.1), block_below h.2.2.2.1 hb (block_lt h.2.2.2.1), h.2.2.2.2.trans (hb.mono hn)⟩
theorem RoundG.own {B : Nat} {w w0 : World} {bo bx : Nat} {o X : Obj} {v : Value} (ho : o.isCells = true) (hX : X.isCells = true) (hn : w.heap.size ≤ w0.heap.size) (hB : w.heap.size ≤ B) : OwnFrom B (fun (_ : Unit) W => RoundG w w0 bo bx o X v W) := by
  rintro q A B row ⟨h1, h2, h4, h5, h6⟩ hg hr
  exact ⟨Var.own _ _ _ _ () A B row h1 hg hr, Var.own _ _ _ _ () A B row h2 hg hr, ownFrom_block _ _ _ ho () A B row h4 hg hr, ownFrom_block _ _ _ hX () A B row h5 hg hr, ownFrom_below (β := Unit) hn hB () A B row h6 hg hr⟩
theorem RoundG.start {w w0 : World} {v : Value} {W : World} (h1 : Var W (w.heap.size + 1) (.bool false) 4) (h3 : Var W (w.heap.size + 2) v 3) (hb : Below w.heap.size w0 W) (hn : w.heap.size ≤ W.heap.size) (o X : Obj) :
    RoundG w w0 W.heap.size (W.heap.size + 1) o X v ((W.alloc o).alloc X) := by
  have hb1 : Below W.heap.size W (W.alloc o) := (Below.refl _ _).alloc (Nat.le_refl _) _
  have hb2 : Below W.heap.size W ((W.alloc o).alloc X) := hb1.alloc (by simp) _
  refine ⟨h1.below hb2 h1.lt, h3.below hb2 h3.lt, (Below.heap_alloc _ _ _ (by simp)).trans (World.alloc_heap_new W o), ?_, hb.trans (hb2.mono hn)⟩
  have h := World.alloc_heap_new (W.alloc o) X
  rw [World.size_alloc] at h; exact h
theorem RoundG.up {w w0 : World} {bo bx : Nat} {o X : Obj} {v : Value} {W : World} (h : RoundG w w0 bo bx o X v W) (h3 : bo ≠ w.heap.size + 2) (h4 : bx ≠ w.heap.size + 2) (u : Value) :
    RoundG w w0 bo bx o X u (W.setCell ⟨w.heap.size + 2, 0, none⟩ u) :=
  ⟨(Below.heap_setCell _ _ _ _ (show w.heap.size + 1 ≠ w.heap.size + 2 by omega)).trans h.1, h.2.1.set u, (Below.heap_setCell _ _ _ _ h3).trans h.2.2.1, (Below.heap_setCell _ _ _ _ h4).trans h.2.2.2.1, h.2.2.2.2.setCell (p := ⟨w.heap.size + 2, 0, none⟩) (Nat.le_add_right _ _) _⟩
/-- a round leaves with 'no' -/
theorem stopG {w w0 W3 W5 : World} {bo bx B : Nat} {o X : Obj} {v : Value} {pre : List (NV w)} (h5 : RoundG w w0 bo bx o X v W5) (hk : KeepsFrom B W3 W5) (hnone : 2000 < (nds pre).length ∨ (nds pre).all Cr.ok = false) (hne : bo ≠ w.heap.size + 1) :
    (KeepsFrom B W3 (W5.setCell ⟨w.heap.size + 1, 0, none⟩ (.bool false)) ∧ (W5.setCell ⟨w.heap.size + 1, 0, none⟩ (.bool false)).heap[bo]? = some o) ∧ GoodX w w0 .ret pre (W5.setCell ⟨w.heap.size + 1, 0, none⟩ (.bool false)) :=
  ⟨⟨hk.trans ((KeepsOthers.setCell _ _ _).from _), (Below.heap_setCell _ _ _ _ hne).trans h5.2.2.1⟩, rfl, hnone, h5.1.set _, h5.2.2.2.2.setCell (p := ⟨w.heap.size + 1, 0, none⟩) (Nat.le_succ _) _⟩
theorem nextG {w w0 W3 W5 : World} {bo bx B : Nat} {o X : Obj} {pre : List (NV w)} (h5 : RoundG w w0 bo bx o X (.int .i64 (pre.length : Int)) W5) (hk : KeepsFrom B W3 W5) (hle : pre.length ≤ 2000) (hf : (nds pre).all Cr.ok = true) :
    (KeepsFrom B W3 W5 ∧ W5.heap[bo]? = some o) ∧ GoodI w w0 pre W5 :=
  ⟨⟨hk, h5.2.2.1⟩, h5.1, h5.2.1, hle, hf, h5.2.2.2.2⟩
set_option maxHeartbeats 4000000 in
theorem good_walk {x : Cr} {cs : List Value} {w : World} (hat : Cr.at w x cs) :
    Calls Tryz.prog 11 #[.agg cs.toArray] w fun e w' => e = .returned (.bool (goodC x)) ∧ Below w.heap.size w w' := by
  have hcs : ∃ k s n a len cap, cs = [.int .i64 k, .int .u64 (word s 0), .int .u64 (word s 1), .int .u64 (word s 2), .int .u64 (word s 3), .int .i64 n, .slice a len cap] := by
    cases x with
    | mk k s n l =>
      rw [at_mk] at hat
      obtain ⟨_, _, a, cap, hcs, _, _⟩ := hat
      exact ⟨_, _, _, _, _, _, hcs⟩
  have hno := fun w' => (callsIn_wide (n := 2)).2 (nodes_walk hat w')
  obtain ⟨k, s, n, a, len, cap, hcs⟩ := hcs
  obtain ⟨w0, hw0⟩ : ∃ w0, w0 = (((w.alloc (.cells cs.toArray 30)).alloc (.cells #[.bool false] 4)).alloc (.cells #[.int .i64 0] 3)).alloc (.cells cs.toArray 30) := ⟨_, rfl⟩
  have hs0 : w0.heap.size = w.heap.size + 4 := by rw [hw0]; simp
  have hb0 : Below w.heap.size w w0 := by
    rw [hw0]
    exact ((((Below.refl _ _).alloc (Nat.le_refl _) _).alloc (by simp) _).alloc (by simp; omega) _).alloc (by simp; omega) _
  have h9 : Core7 w0 (w.heap.size + 1 + 1 + 1) 0 cs := by
    have h := World.alloc_heap_new (((w.alloc (.cells cs.toArray 30)).alloc (.cells #[.bool false] 4)).alloc (.cells #[.int .i64 0] 3)) (.cells cs.toArray 30)
    rw [← hw0] at h
    simp only [World.size_alloc] at h
    refine ⟨by rw [hcs]; rfl, fun q hq => ?_⟩
    simp [World.cell?, h]
  have hvar : Var w0 (w.heap.size + 2) (.int .i64 0) 3 := by
    rw [hw0]
    have h := Var.new ((w.alloc (.cells cs.toArray 30)).alloc (.cells #[.bool false] 4)) (.int .i64 0) 3
    rw [World.size_alloc, World.size_alloc] at h
    exact h.alloc _
  have hres : Var w0 (w.heap.size + 1) (.bool false) 4 := by
    rw [hw0]
    have h := Var.new (w.alloc (.cells cs.toArray 30)) (.bool false) 4
    rw [World.size_alloc] at h
    exact (h.alloc _).alloc _
  have hheld := nodes_held hat hb0 (Bx := w.heap.size + 1 + 1 + 1) (by omega) h9
  refine (callsIn_wide (n := 3)).1 ?_
  refine callsIn_of_wp_marks Tryz.func11 rfl trivial ?_ rfl
  subst hcs
  obtain ⟨R, hR⟩ : ∃ R, R = goodC x := ⟨_, rfl⟩
  rw [← hR]
  have HR := Lib.hid hR
  clear hR
  simp only [Tryz.ntmps11, List.size_toArray, List.length_cons, List.length_nil, Nat.reduceAdd, Nat.reduceSub, Array.replicate_succ, Array.replicate_zero, List.push_toArray, List.append_toArray, List.nil_append, List.cons_append]
  gi_wp2_with ((try refine ⟨trivial, ?_⟩); gi_at_call 31; refine (hno _).mono ?_; clear hno; rintro e w' ⟨rfl, rfl⟩)
  rw [← hw0]
  clear hw0 h9 hat
  refine wp_range_held (w := w0) rfl (enters_of Tryz.func56 (by kernel_rfl) rfl) hheld hb0.size (Below.refl _ _)
    (GoodI w w0) (GoodX w w0) (GoodI.own hb0.size) (GoodX.own hb0.size)
    (fun _ _ h => h.2.2.2.2) (fun _ _ _ h => h.2.2.2) ⟨hres, hvar, Nat.zero_le _, rfl, Below.refl _ _⟩ ?turn ?done ?stop
  case turn =>
    intro l m pre y W o K hI ho hlen hlt hK
    obtain ⟨⟨nd, ds⟩, hnd⟩ := y
    obtain ⟨k1, s1, n1, ls⟩ := nd
    have hnd2 := hnd
    rw [at_mk] at hnd
    obtain ⟨_, _, a1, cap1, hds, _, _⟩ := hnd
    obtain ⟨hI1, hI2, hI3, hI4, hI5⟩ := hI
    simp only at hds
    subst hds
    have hok : ∀ y : NV w, y.1.1 = Cr.mk k1 s1 n1 ls → (nds (pre ++ [y])).all Cr.ok = (blankC k1 s1 n1 && formedC k1 n1 ls.length) := fun y hy => by
      rw [nds_append, List.all_append, hI4, Bool.true_and, show nds [y] = [Cr.mk k1 s1 n1 ls] from by rw [← hy]; rfl]
      simp [Cr.ok, partOk_eq]
    have hok := hok ⟨(Cr.mk k1 s1 n1 ls, _), hnd2⟩ rfl
    have hpl : (nds (pre ++ [(⟨(Cr.mk k1 s1 n1 ls, _), hnd2⟩ : NV w)])).length = pre.length + 1 := by simp [nds]
    have hbl := fun W => blank_walk k1 s1 n1 a1 ls.length cap1 W
    have hfm := fun W => formed_walk k1 s1 n1 a1 ls.length cap1 W
    have hn0 : w.heap.size ≤ W.heap.size := by have := hb0.size; omega
    have hstart := RoundG.start hI1 hI2 hI5 hn0 o (.cells #[.int .i64 k1, .int .u64 (word s1 0), .int .u64 (word s1 1), .int .u64 (word s1 2), .int .u64 (word s1 3), .int .i64 n1, .slice a1 ls.length cap1] 30)
    have Hstart := Lib.hid hstart
    have Hok := Lib.hid hok
    have Hpl := Lib.hid hpl
    have Hlt := Lib.hid hlt
    have HI3 := Lib.hid hI3
    clear hok hpl hI1 hI2 hI3 hI4 hI5 hlt hstart hheld hvar hres
    gi_wp2
    refine hK _ _ ((KeepsOthers.alloc _ _).from _) fun W3 hto hs3 => ?_
    have hR3 := hto _ (RoundG.own ho rfl hb0.size hb0.size) Hstart.out
    have hsz3 : w.heap.size ≤ W3.heap.size := by rw [hs3]; simp; omega
    have hup := RoundG.up hR3 (show W.heap.size ≠ w.heap.size + 2 by have := Hlt.out; omega) (show W.heap.size + 1 ≠ w.heap.size + 2 by have := Hlt.out; omega) (.int .i64 ((pre.length : Int) + 1))
    have hcv := hR3.2.1.cell
    have hcX := cells_at hup.2.2.2.1
    have hcv2 := hup.2.1.cell
    have HR3 := Lib.hid hup
    have hne : W.heap.size ≠ w.heap.size + 1 := by have := Hlt.out; omega
    have hsu : (W3.setCell ⟨w.heap.size + 2, 0, none⟩ (.int .i64 ((pre.length : Int) + 1))).heap.size = W3.heap.size := by simp
    have HK3 : Hid (KeepsFrom w0.heap.size W3 (W3.setCell ⟨w.heap.size + 2, 0, none⟩ (.int .i64 ((pre.length : Int) + 1)))) := Lib.hid ((KeepsOthers.setCell _ _ _).from _)
    have hpb : pre.length ≤ 2000 := HI3.out
    clear hR3 hto hs3 hK hup
    have hdd : ∀ k : Nat, (Fence.wide.depth.isSome = true → 1 ≤ k) := fun k h => by cases h
    by_cases hbig : 2000 < pre.length + 1
    · have hd : decide (((pre.length : Int) + 1) > 2000) = true := by simp; omega
      have hd' : decide ((2000 : Int) < (pre.length : Int) + 1) = true := by simp; omega
      have Hbig := Lib.hid hbig
      have hc3 : (W3.setCell ⟨w.heap.size + 1 + 1, 0, none⟩ (.int .i64 ((pre.length : Int) + 1))).cell? ⟨w.heap.size + 1, 0, none⟩ = some (.bool false) ∧ (W3.setCell ⟨w.heap.size + 1 + 1, 0, none⟩ (.int .i64 ((pre.length : Int) + 1))).frozen? ⟨w.heap.size + 1, 0, none⟩ = false := HR3.out.1.cell
      obtain ⟨hc3a, hc3b⟩ := hc3
      clear hbig hbl hfm
      gi_wp2
      refine ⟨trivial, ?_⟩
      gi_wp2
      refine ⟨trivial, ?_⟩
      gi_wp2
      exact stopG HR3.out HK3.out (.inl (by rw [Hpl.out]; exact Hbig.out)) hne
    · have hd : decide (((pre.length : Int) + 1) > 2000) = false := by simp; omega
      have hd' : decide ((2000 : Int) < (pre.length : Int) + 1) = false := by simp; omega
      have Hbig := Lib.hid hbig
      clear hbig
      obtain ⟨b1, hb1⟩ : ∃ b, b = blankC k1 s1 n1 := ⟨_, rfl⟩
      obtain ⟨b2, hb2⟩ : ∃ b, b = formedC k1 n1 ls.length := ⟨_, rfl⟩
      rw [← hb1] at hbl
      rw [← hb2] at hfm
      have Hok2 := Hok.out
      rw [← hb1, ← hb2] at Hok2
      have Hok2 := Lib.hid Hok2
      clear hb1 hb2 Hok
      have hszU : w.heap.size ≤ (W3.setCell ⟨w.heap.size + 2, 0, none⟩ (.int .i64 ((pre.length : Int) + 1))).heap.size := by rw [hsu]; exact hsz3
      have HszU := Lib.hid hszU
      have hnext : ((pre ++ [(⟨(Cr.mk k1 s1 n1 ls, _), hnd2⟩ : NV w)]).length : Int) = (pre.length : Int) + 1 ∧ (pre ++ [(⟨(Cr.mk k1 s1 n1 ls, _), hnd2⟩ : NV w)]).length ≤ 2000 := by have := Hbig.out; simp; omega
      have Hnext := Lib.hid hnext
      clear hszU hnext hsz3 hsu
      cases b1 with
      | false =>
        clear hfm
        gi_wp2_with (refine ⟨trivial, hdd _, ?_⟩; gi_at_call 32; refine (CallsIn.inRound l (callsIn_wide.2 (hbl _))).mono ?_; clear hbl; rintro e W5 ⟨rfl, hb5⟩; have HR5 := Lib.hid (HR3.out.still HszU.out hb5); have hc5 := HR5.out.1.cell; have hd5 := HR5.out.2.1.cell; have hcX5 := cells_at HR5.out.2.2.2.1; have HB5 := Lib.hid (HK3.out.trans (keepsFrom_below hb5)); clear hb5 hcX hcv hcv2)
        refine ⟨trivial, ?_⟩
        gi_wp2
        exact stopG HR5.out HB5.out (.inr Hok2.out) hne
      | true =>
        cases b2 with
        | false =>
          gi_wp2_with (first
            | (refine ⟨trivial, hdd _, ?_⟩; gi_at_call 32; refine (CallsIn.inRound l (callsIn_wide.2 (hbl _))).mono ?_; clear hbl; rintro e W5 ⟨rfl, hb5⟩; have HR5 := Lib.hid (HR3.out.still HszU.out hb5); have hc5 := HR5.out.1.cell; have hd5 := HR5.out.2.1.cell; have hcX5 := cells_at HR5.out.2.2.2.1; have HB5 := Lib.hid (HK3.out.trans (keepsFrom_below hb5)); have HS5 := Lib.hid (Nat.le_trans HszU.out hb5.size); clear hb5 hcX hcv hcv2)
            | (refine ⟨trivial, hdd _, ?_⟩; gi_at_call 33; refine (CallsIn.inRound l (callsIn_wide.2 (hfm _))).mono ?_; clear hfm hcX5 hc5 hd5; rintro e W6 ⟨rfl, hb6⟩; have HR6 := Lib.hid (HR5.out.still HS5.out hb6); have hc6 := HR6.out.1.cell; have hd6 := HR6.out.2.1.cell; have hcX6 := cells_at HR6.out.2.2.2.1; have HB6 := Lib.hid (HB5.out.trans (keepsFrom_below hb6)); clear hb6))
          exact stopG HR6.out HB6.out (.inr Hok2.out) hne
        | true =>
          gi_wp2_with (first
            | (refine ⟨trivial, hdd _, ?_⟩; gi_at_call 32; refine (CallsIn.inRound l (callsIn_wide.2 (hbl _))).mono ?_; clear hbl; rintro e W5 ⟨rfl, hb5⟩; have HR5 := Lib.hid (HR3.out.still HszU.out hb5); have hc5 := HR5.out.1.cell; have hd5 := HR5.out.2.1.cell; have hcX5 := cells_at HR5.out.2.2.2.1; have HB5 := Lib.hid (HK3.out.trans (keepsFrom_below hb5)); have HS5 := Lib.hid (Nat.le_trans HszU.out hb5.size); clear hb5 hcX hcv hcv2)
            | (refine ⟨trivial, hdd _, ?_⟩; gi_at_call 33; refine (CallsIn.inRound l (callsIn_wide.2 (hfm _))).mono ?_; clear hfm hcX5 hc5 hd5; rintro e W6 ⟨rfl, hb6⟩; have HR6 := Lib.hid (HR5.out.still HS5.out hb6); have hc6 := HR6.out.1.cell; have hd6 := HR6.out.2.1.cell; have hcX6 := cells_at HR6.out.2.2.2.1; have HB6 := Lib.hid (HB5.out.trans (keepsFrom_below hb6)); clear hb6))
          have hR6 := HR6.out
          rw [← Hnext.out.1] at hR6
          exact nextG hR6 HB6.out Hnext.out.2 Hok2.out
  case done =>
    rintro D ys W hD hS ⟨hv, hc, hle, hall, hb⟩ hk
    have hRt : R = true := HR.out.trans (good_done hS (by simpa [nds] using hle) hall)
    have HV := Lib.hid hv
    have hcR := hv.cell
    clear hv hc hS hall hle
    subst hRt
    gi_wp2
    have hk' := (KeepsOthers.setCell W ⟨w.heap.size + 1, 0, none⟩ (.bool true)).same D _ hk rfl
    have hvs := HV.out.set (.bool true)
    refine ⟨by simp, .inl ⟨_, _, rfl, run_takeDeferred hk', ?_⟩⟩
    have hc5 := cell_kept hvs.cell.1 (grownBy_putObj' _ D (.deferred none)) (fun r e => by cases e; exact ⟨_, hk', rfl⟩)
    refine ⟨.bool true, ?_, rfl, ((hb0.trans hb).setCell (p := ⟨w.heap.size + 1, 0, none⟩) (Nat.le_succ _) _).trans (belowK_b (w := w) (Nat.le_refl _) _ D _ _ (by have := hb0.size; omega) hk' rfl rfl)⟩
    simp [results, Tryz.f11, go_sem, hc5]
  case stop =>
    rintro D c ys W hD hS ⟨rfl, hfold, hv, hb⟩ hk
    have hRf : R = false := HR.out.trans (good_stop hS hfold)
    gi_wp2
    refine ⟨by simp, .inl ⟨_, _, rfl, run_takeDeferred hk, ?_⟩⟩
    have hc5 := cell_kept hv.cell.1 (grownBy_putObj' _ D (.deferred none)) (fun r e => by cases e; exact ⟨_, hk, rfl⟩)
    refine ⟨.bool false, ?_, by rw [hRf], (hb0.trans hb).trans (belowK_b (w := w) (Nat.le_refl _) W D _ _ (by have := hb0.size; omega) hk rfl rfl)⟩
    simp [results, Tryz.f11, go_sem, hc5]
end K
end Go.Proofs.YtlgpbgcheeaalaaGreatDoor
/-! core.Same, walked. -/
namespace Go.Proofs.YtlgpbgcheeaalaaGreatDoor
namespace K
set_option maxRecDepth 100000
open Go.RowKit
theorem same_mk (k k' : Int) (s s' : BitVec 256) (n n' : Int) (l l' : List Cr) : (Cr.mk k s n l).same (.mk k' s' n' l') = (decide (k = k') && decide (s = s') && decide (n = n') && sames l l') := by rw [Cr.same]
theorem sames_cons (x y : Cr) (l m : List Cr) : sames (x :: l) (y :: m) = (x.same y && sames l m) := by rw [sames]
theorem sames_nil : sames [] [] = true := by rw [sames]
theorem sames_length : ∀ l m : List Cr, sames l m = true → l.length = m.length
  | [], [], _ => rfl
  | [], _ :: _, h => by simp [sames] at h
  | _ :: _, [], h => by simp [sames] at h
  | x :: l, y :: m, h => by
    rw [sames_cons, Bool.and_eq_true] at h
    rw [List.length_cons, List.length_cons, sames_length l m h.2]
theorem sames_append : ∀ (l m l2 m2 : List Cr), l.length = m.length → sames (l ++ l2) (m ++ m2) = (sames l m && sames l2 m2)
  | [], [], l2, m2, _ => by rw [sames_nil, Bool.true_and]; rfl
  | [], _ :: _, _, _, h => by simp at h
  | _ :: _, [], _, _, h => by simp at h
  | x :: l, y :: m, l2, m2, h => by
    rw [List.cons_append, List.cons_append, sames_cons, sames_cons, sames_append l m l2 m2 (by simpa using h), Bool.and_assoc]
theorem sames_take_succ (l m : List Cr) (j : Nat) (hl : j < l.length) (hm : j < m.length) : sames (l.take (j + 1)) (m.take (j + 1)) = (sames (l.take j) (m.take j) && l[j].same m[j]) := by
  rw [List.take_succ_eq_append_getElem hl, List.take_succ_eq_append_getElem hm, sames_append _ _ _ _ (by simp; omega), sames_cons, sames_nil, Bool.and_true]
theorem sames_part (l m : List Cr) (j : Nat) (hlen : l.length = m.length) (h : sames (l.take j) (m.take j) = false) : sames l m = false := by
  have e := sames_append (l.take j) (m.take j) (l.drop j) (m.drop j) (by simp; omega)
  rw [List.take_append_drop, List.take_append_drop, h, Bool.false_and] at e
  exact e
theorem quiet_load_core {o : Oper} {a : Act} {C : World → Prop} {K : Act → Prop} (x : Operand) (ho : o.op = .load 30 x) (b off : Nat) (cs : List Value) (hx : a.eval x = .pointer (some ⟨b, off, none⟩))
    (h : ∀ w, C w → Core7 w b off cs) (hK : K (a.put o.dst (.agg cs.toArray))) : o.quiet Tryz.prog a C K :=
  ⟨.agg cs.toArray, fun w hw => by
    unfold Oper.quietAt execOp
    simp only [ho, hx, Instr.loadAt, Instr.sureAddr, Sem.run_bind, Sem.run_pure, Result.andThen_ok, loadCore (h w hw)]
    exact ⟨rfl, rfl⟩, hK⟩
theorem two_below (w : World) (o o' : Obj) : Below w.heap.size w ((w.alloc o).alloc o') := ((Below.refl _ _).alloc (Nat.le_refl _) _).alloc (by simp) _
theorem at_later {w wr : World} {x : Cr} {cs : List Value} (hB : Below w.heap.size w wr) (L : Later wr) (h : Cr.at w x cs) : Cr.at L.val x cs :=
  Cr.at_below (hB.trans (L.ok.mono hB.size)) (Nat.le_refl _) _ _ h
set_option maxRecDepth 100000 in
set_option maxHeartbeats 4000000 in
theorem same_any : ∀ (m : Nat) (x y : Cr) (cs ds : List Value) (w : World), x.count ≤ m → Cr.at w x cs → Cr.at w y ds →
    Calls Tryz.prog 28 #[.agg cs.toArray, .agg ds.toArray] w fun e w' => e = .returned (.bool (x.same y)) ∧ Below w.heap.size w w' := by
  intro m
  induction m with
  | zero => intro x y cs ds w hm; have := Cr.count_pos x; omega
  | succ m ih =>
    intro x y cs ds w hm hx hy
    obtain ⟨k, s, n, l⟩ := x
    obtain ⟨k', s', n', l'⟩ := y
    rw [at_mk] at hx hy
    obtain ⟨_, _, a, cap, rfl, hmax, hl⟩ := hx
    obtain ⟨_, _, a', cap', rfl, hmax', hl'⟩ := hy
    rw [same_mk]
    have hs := eql_set s s'
    have h6 : l.length ≠ l'.length → sames l l' = false := fun h => by
      cases hh : sames l l' with
      | false => rfl
      | true => exact absurd (sames_length l l' hh) h
    have e1 : (k == k') = decide (k = k') := by rw [Bool.eq_iff_iff]; simp
    have e5 : (n == n') = decide (n = n') := by rw [Bool.eq_iff_iff]; simp
    have e6 : ((l.length : Int) == (l'.length : Int)) = decide (l.length = l'.length) := by rw [Bool.eq_iff_iff]; simp; omega
    by_cases hlen : l.length = l'.length
    rotate_left 1
    · rw [h6 hlen, Bool.and_false]
      rw [decide_eq_false hlen] at e6
      have n6 : ((l.length : Int) != (l'.length : Int)) = true := by simp [bne, e6]
      clear h6 hlen ih hl hl' hm
      generalize decide (k = k') = b1 at *
      generalize decide (s = s') = b2 at *
      generalize decide (n = n') = b5 at *
      have n1 : (k != k') = !b1 := by simp [bne, e1]
      have n5 : (n != n') = !b5 := by simp [bne, e5]
      cases b1 <;> cases b2 <;> cases b5 <;> (
        go_enter Tryz.func28, Tryz.ntmps28
        go_wp2_with fail
        go_ret
        exact ⟨rfl, two_below _ _ _⟩)
    · rw [← hlen] at hmax' hl' e6 ⊢
      rw [decide_eq_true rfl] at e6
      have n6 : ((l.length : Int) != (l.length : Int)) = false := by simp [bne]
      have hmx : l.length ≤ 9223372036854775807 := Nat.le_trans hmax (by decide)
      clear h6
      have hcnt : counts l ≤ m := by rw [count_mk] at hm; omega
      clear hm
      generalize decide (k = k') = b1 at *
      generalize decide (s = s') = b2 at *
      generalize decide (n = n') = b5 at *
      have n1 : (k != k') = !b1 := by simp [bne, e1]
      have n5 : (n != n') = !b5 := by simp [bne, e5]
      have Hlen := Lib.hid hlen
      clear hlen
      obtain ⟨R, hR⟩ : ∃ R, R = sames l l' := ⟨_, rfl⟩
      rw [← hR]
      have HR := Lib.hid hR
      clear hR
      by_cases hb : (b1 && b2 && b5) = true
      rotate_left 1
      · clear ih hl hl' HR
        cases b1 <;> cases b2 <;> cases b5 <;> first | (exact absurd rfl hb) | (
          clear hb
          go_enter Tryz.func28, Tryz.ntmps28
          go_wp2_with fail
          go_ret
          exact ⟨rfl, two_below _ _ _⟩)
      · simp only [Bool.and_eq_true] at hb
        obtain ⟨⟨rfl, rfl⟩, rfl⟩ := hb
        go_enter Tryz.func28, Tryz.ntmps28
        go_wp2_with fail
        go_loopw [37] (fun i wr => ∃ j : Nat, i = .int .i64 j ∧ j ≤ l.length ∧ Hid (sames (l.take j) (l'.take j) = true) ∧ Below (w.heap.size + 1 + 1) ((w.alloc (.cells #[.int .i64 k, .int .u64 (word s 0), .int .u64 (word s 1), .int .u64 (word s 2), .int .u64 (word s 3), .int .i64 n, .slice a l.length cap] 30)).alloc (.cells #[.int .i64 k', .int .u64 (word s' 0), .int .u64 (word s' 1), .int .u64 (word s' 2), .int .u64 (word s' 3), .int .i64 n', .slice a' l.length cap'] 30)) wr) (fun i _ => l.length - (intOf i).toNat)
        case atStart => exact ⟨0, rfl, Nat.zero_le _, by show _ = _; rw [List.take_zero, List.take_zero, sames_nil], Below.refl _ _⟩
        case round =>
          obtain ⟨j, rfl, hjl, hno, hr⟩ := hrel
          have cr0 : ∀ o, wr.cell? ⟨w.heap.size, o, none⟩ = ((w.alloc _).alloc _).cell? ⟨w.heap.size, o, none⟩ := fun o => hr.cell (p := ⟨w.heap.size, o, none⟩) (by show w.heap.size < w.heap.size + 1 + 1; omega)
          have cr1 : ∀ o, wr.cell? ⟨w.heap.size + 1, o, none⟩ = ((w.alloc _).alloc _).cell? ⟨w.heap.size + 1, o, none⟩ := fun o => hr.cell (p := ⟨w.heap.size + 1, o, none⟩) (by show w.heap.size + 1 < w.heap.size + 1 + 1; omega)
          have hB : Below w.heap.size w wr := (two_below _ _ _).trans (hr.mono (by omega))
          by_cases hjn : j < l.length
          · have hdj : decide ((j : Int) < l.length) = true := by simp; omega
            rcases hl with hl | ⟨b, off, rfl, hcap, hbw, hnodes⟩
            · omega
            rcases hl' with hl' | ⟨b', off', rfl, hcap', hbw', hnodes'⟩
            · omega
            have hjm : j < l'.length := by have := Hlen.out; omega
            obtain ⟨cs, hcs, hcell, hchild⟩ := nodes_get w b l off hnodes j hjn
            obtain ⟨ds, hds, hcell', hchild'⟩ := nodes_get w b' l' off' hnodes' j hjm
            have hbr : b < wr.heap.size := Nat.lt_of_lt_of_le hbw hB.size
            have hbr' : b' < wr.heap.size := Nat.lt_of_lt_of_le hbw' hB.size
            have h9 : ∀ w', (∃ L : Later wr, w' = L.val) → Core7 w' b (off + j * 7) cs := fun w' hw' => by
              obtain ⟨L, rfl⟩ := hw'
              exact ⟨hcs, fun q hq => by rw [L.ok.cell (p := ⟨b, off + j * 7 + q, none⟩) hbr, hB.cell (p := ⟨b, off + j * 7 + q, none⟩) hbw]; exact hcell q hq⟩
            have h9' : ∀ w', (∃ L : Later wr, w' = L.val) → Core7 w' b' (off' + j * 7) ds := fun w' hw' => by
              obtain ⟨L, rfl⟩ := hw'
              exact ⟨hds, fun q hq => by rw [L.ok.cell (p := ⟨b', off' + j * 7 + q, none⟩) hbr', hB.cell (p := ⟨b', off' + j * 7 + q, none⟩) hbw']; exact hcell' q hq⟩
            have cl0 : ∀ (L : Later wr) o, L.val.cell? ⟨w.heap.size, o, none⟩ = wr.cell? ⟨w.heap.size, o, none⟩ := fun L o => L.cell ⟨w.heap.size, o, none⟩ (by have := hr.size; simp at this; show w.heap.size < _; omega)
            have cl1 : ∀ (L : Later wr) o, L.val.cell? ⟨w.heap.size + 1, o, none⟩ = wr.cell? ⟨w.heap.size + 1, o, none⟩ := fun L o => L.cell ⟨w.heap.size + 1, o, none⟩ (by have := hr.size; simp at this; show w.heap.size + 1 < _; omega)
            have hcm : l[j].count ≤ m := Nat.le_trans (counts_mem (List.getElem_mem hjn)) hcnt
            have hcall := fun L : Later wr => ih l[j] l'[j] cs ds L.val hcm (at_later hB L hchild) (at_later hB L hchild')
            have hstep := sames_take_succ l l' j hjn hjm
            rw [hno.out, Bool.true_and] at hstep
            have hpart := sames_part l l' (j + 1) Hlen.out
            rw [hstep] at hpart
            generalize l[j].same l'[j] = v at hcall hstep hpart
            have Hstep := Lib.hid hstep
            have Hpart := Lib.hid hpart
            have hne := Later.nonempty wr
            clear hstep hpart hnodes hnodes' hcell hcell' hchild hchild' ih hcnt hno hcm
            go_wp2_with fail
            refine wp_region_later (W0 := wr) (Below.refl _ _) (by kernel_rfl) (by as_aux_lemma => kernel_rfl) ?_
            iterate 4 (go_big_quiet_step (fail))
            go_big_quiet_want
            refine quiet_load_core _ rfl b (off + j * 7) cs rfl h9 ?_
            go_big_quiet_on
            simp only [Act.put, List.setIfInBounds_toArray, List.set_cons_zero, List.set_cons_succ]
            iterate 4 (go_big_quiet_step (fail))
            go_big_quiet_want
            refine quiet_load_core _ rfl b' (off' + j * 7) ds rfl h9' ?_
            go_big_quiet_on
            simp only [Act.put, List.setIfInBounds_toArray, List.set_cons_zero, List.set_cons_succ]
            iterate 2 (go_big_quiet_step (exact Later.calls (hcall _)))
            refine wpQuiet_nil ?_
            intro w' hw'
            obtain ⟨L', rfl⟩ := hw'
            have hr5 := hr.trans (L'.ok.mono (by have := hr.size; simp at this; exact this))
            have hB5 := hB.trans (L'.ok.mono hB.size)
            clear hcall h9 h9' cl0 cl1
            cases v with
            | true =>
              go_wp2_with fail
              go_roundw
              case rel => exact ⟨j + 1, by go_num, Nat.succ_le_of_lt hjn, Hstep.out, hr5⟩
              case measure => simp [intOf]; omega
            | false =>
              have hRf : R = false := by rw [HR.out]; exact Hpart.out rfl
              clear HR
              subst hRf
              go_wp2_with fail
              go_ret
              exact ⟨rfl, hB5⟩
          · obtain rfl : j = l.length := by omega
            have hdj : decide ((l.length : Int) < l.length) = false := by simp
            have hRt : R = true := by
              have h := hno.out
              rw [List.take_length, Hlen.out, List.take_length] at h
              rw [HR.out, h]
            clear hl hl' ih HR
            subst hRt
            go_wp2_with fail
            go_ret
            exact ⟨rfl, hB⟩
end K
end Go.Proofs.YtlgpbgcheeaalaaGreatDoor
/-! core.writeSet, writeParts, writeCore, Text, walked for every core. -/
namespace Go.Proofs.YtlgpbgcheeaalaaGreatDoor
namespace K
set_option maxRecDepth 100000
open Go.RowKit
/-! what is written -/
def hexD (b : Nat) : Nat := if b < 10 then 48 + b else 87 + b
def hexT (b : Nat) : List Nat := [hexD (b / 16), hexD (b % 16)]
def setTxt (s : BitVec 256) : List Nat := 60 :: ((elems s).flatMap hexT ++ [62])
mutual
def Cr.txt : Cr → List Nat
  | .mk k s n l => if k = 0 then [48] else if k = 1 then [49] else if k = 2 then setTxt s else if k = 3 then rowT [40] [46] l ++ [41] else if k = 4 then rowT [40] [124] l ++ [41] else if k = 5 then rowT [40] [] l ++ [42, 41]
    else if k = 6 then rowT (40 :: (numText n.toNat ++ [58])) [] l ++ [41] else if k = 7 then rowT [40, 126] [] l ++ [41] else []
def rowT (m sep : List Nat) : List Cr → List Nat
  | [] => []
  | x :: l => m ++ (x.txt ++ rowT sep sep l)
end
theorem txt_mk (k : Int) (s : BitVec 256) (n : Int) (l : List Cr) : (Cr.mk k s n l).txt = if k = 0 then [48] else if k = 1 then [49] else if k = 2 then setTxt s else if k = 3 then rowT [40] [46] l ++ [41] else if k = 4 then rowT [40] [124] l ++ [41] else if k = 5 then rowT [40] [] l ++ [42, 41]
    else if k = 6 then rowT (40 :: (numText n.toNat ++ [58])) [] l ++ [41] else if k = 7 then rowT [40, 126] [] l ++ [41] else [] := by rw [Cr.txt]
theorem row_nil (m sep : List Nat) : rowT m sep [] = [] := by rw [rowT]
theorem row_cons (m sep : List Nat) (x : Cr) (l : List Cr) : rowT m sep (x :: l) = m ++ (x.txt ++ rowT sep sep l) := by rw [rowT]
theorem row_append (sep : List Nat) (l2 : List Cr) : ∀ (l : List Cr) (m : List Nat), rowT m sep (l ++ l2) = rowT m sep l ++ rowT (if l = [] then m else sep) sep l2
  | [], m => by rw [List.nil_append, row_nil, if_pos rfl]; rfl
  | x :: l, m => by
    rw [List.cons_append, row_cons, row_cons, row_append sep l2 l sep, ite_self, if_neg (List.cons_ne_nil x l)]
    simp only [List.append_assoc]
/-! how long -/
theorem numText_len (n : Nat) (h : n ≤ 255) : (numText n).length ≤ 3 := by
  have : ∀ n, n < 256 → (numText n).length ≤ 3 := by
    intro n hn
    rw [numText]
    split
    · simp
    · rw [numText]
      split
      · simp
      · rw [numText, if_pos (by omega)]
        simp
  exact this n (by omega)
theorem hex_len (l : List Nat) : (l.flatMap hexT).length = 2 * l.length := by
  induction l with
  | nil => rfl
  | cons x l ih => rw [List.flatMap_cons, List.length_append, ih]; simp [hexT]; omega
theorem setTxt_len (s : BitVec 256) : (setTxt s).length ≤ 514 := by
  have := elems_length_le s
  unfold setTxt
  rw [List.length_cons, List.length_append, hex_len]; simp; omega
mutual
theorem txt_len : ∀ x : Cr, x.form = true → x.txt.length + 20 ≤ 1000 * x.count
  | .mk k s n l => by
    intro hf
    rw [form_mk, Bool.and_eq_true] at hf
    have h0 := fun m sep hs => row_len l m sep hf.2 hs
    have hs := setTxt_len s
    rw [txt_mk, count_mk]
    have hp := hf.1
    split
    · simp; omega
    split
    · simp; omega
    split
    · omega
    split
    · have := h0 [40] [46] (by simp); simp only [List.length_append, List.length_singleton] at this ⊢; omega
    split
    · have := h0 [40] [124] (by simp); simp only [List.length_append, List.length_singleton] at this ⊢; omega
    split
    · have := h0 [40] [] (by simp); simp only [List.length_append, List.length_cons, List.length_nil] at this ⊢; omega
    split
    · rename_i h1 h2 h3 h4 h5 h6 h7
      subst h7
      have hn : n.toNat ≤ 255 := by
        rw [partOk_eq, Bool.and_eq_true] at hp
        have := hp.2
        unfold formedC at this
        simp at this
        omega
      have hn2 := numText_len n.toNat hn
      have := h0 (40 :: (numText n.toNat ++ [58])) [] (by simp); simp only [List.length_append, List.length_cons, List.length_nil] at this ⊢; omega
    split
    · have := h0 [40, 126] [] (by simp); simp only [List.length_append, List.length_cons, List.length_nil] at this ⊢; omega
    · simp; omega
theorem row_len : ∀ (l : List Cr) (m sep : List Nat), forms l = true → sep.length ≤ 1 → (rowT m sep l).length ≤ m.length + 1000 * counts l
  | [], m, sep, _, _ => by rw [row_nil]; simp
  | x :: l, m, sep, hf, hs => by
    rw [forms_cons, Bool.and_eq_true] at hf
    have h1 := txt_len x hf.1
    have h2 := row_len l sep sep hf.2 hs
    rw [row_cons, counts_cons, List.length_append, List.length_append]; omega
end
theorem row_take (m sep : List Nat) (l : List Cr) (j : Nat) : (rowT m sep (l.take j)).length ≤ (rowT m sep l).length := by
  have h := row_append sep (l.drop j) (l.take j) m
  rw [List.take_append_drop] at h
  rw [h, List.length_append]; omega
/-! bytes -/
theorem hexT_lt (b : Nat) (h : b < 256) : ∀ c ∈ hexT b, c < 256 := by
  intro c hc
  unfold hexT hexD at hc
  simp only [List.mem_cons, List.not_mem_nil, or_false] at hc
  rcases hc with rfl | rfl <;> split <;> omega
theorem numText_lt (n : Nat) : ∀ c ∈ numText n, c < 256 := by
  induction n using Nat.strongRecOn with
  | _ n ih =>
    intro c hc
    rw [numText] at hc
    split at hc
    · simp at hc; omega
    · rcases List.mem_append.1 hc with hc | hc
      · exact ih (n / 10) (by omega) c hc
      · simp at hc; omega
mutual
theorem txt_lt : ∀ (x : Cr), ∀ c ∈ x.txt, c < 256
  | .mk k s n l => by
    have h := row_lt l
    intro c hc
    rw [txt_mk] at hc
    have hb : ∀ d : Nat, d < 256 → ∀ m sep, (∀ c ∈ m, c < 256) → (∀ c ∈ sep, c < 256) → c ∈ rowT m sep l ++ [d] → c < 256 := by
      intro d hd m sep hm hs hc
      rcases List.mem_append.1 hc with hc | hc
      · exact h m sep hm hs c hc
      · rw [List.mem_singleton] at hc; omega
    split at hc
    · simp at hc; omega
    split at hc
    · simp at hc; omega
    split at hc
    · unfold setTxt at hc
      simp only [List.mem_cons, List.mem_append, List.mem_flatMap, List.not_mem_nil, or_false] at hc
      rcases hc with hc | ⟨b, hb, hc⟩ | hc
      · omega
      · exact hexT_lt b ((mem_elems s b).1 hb).1 c hc
      · omega
    split at hc
    · exact hb 41 (by decide) _ _ (by simp) (by simp) hc
    split at hc
    · exact hb 41 (by decide) _ _ (by simp) (by simp) hc
    split at hc
    · rcases List.mem_append.1 hc with hc | hc
      · exact h _ _ (by simp) (by simp) c hc
      · simp at hc; omega
    split at hc
    · refine hb 41 (by decide) _ _ (fun d hd => ?_) (by simp) hc
      simp only [List.mem_cons, List.mem_append, List.not_mem_nil, or_false] at hd
      rcases hd with hd | hd | hd
      · omega
      · exact numText_lt _ d hd
      · omega
    split at hc
    · exact hb 41 (by decide) _ _ (by simp) (by simp) hc
    · simp at hc
theorem row_lt : ∀ (l : List Cr) (m sep : List Nat), (∀ c ∈ m, c < 256) → (∀ c ∈ sep, c < 256) → ∀ c ∈ rowT m sep l, c < 256
  | [], m, sep, _, _ => by rw [row_nil]; simp
  | x :: l, m, sep, hm, hs => by
    intro c hc
    rw [row_cons, List.mem_append, List.mem_append] at hc
    rcases hc with hc | hc | hc
    · exact hm c hc
    · exact txt_lt x c hc
    · exact row_lt l sep sep hs hs c hc
end
/-! texts as strings -/
def TextIs (w : World) (T : List Nat) (e : Ending) (w' : World) : Prop := (∃ t : ByteArray, e = .returned (.string t) ∧ nats t = T) ∧ Below w.heap.size w w'
theorem size_nats {t : ByteArray} {l : List Nat} (h : nats t = l) : t.size = l.length := by rw [← h, nats_length]
theorem nats_bytes {l : List Nat} (h : ∀ x ∈ l, x < 256) : nats ⟨(toBytes l).toArray⟩ = l := by
  unfold nats toBytes
  rw [List.toList_toArray, List.map_map]
  conv => rhs; rw [← List.map_id l]
  refine List.map_congr_left fun x hx => ?_
  have := h x hx
  simp [Nat.mod_eq_of_lt this]
theorem dec_num (n : Nat) : (Lib.decDigits n).map UInt8.toNat = numText n := by
  induction n using Nat.strongRecOn with
  | _ n ih =>
    rw [Lib.decDigits, numText]
    by_cases h : n < 10
    · rw [dif_pos h, if_pos h]
      simp only [List.map_cons, List.map_nil]
      rw [UInt8.toNat_ofNat_of_lt' (by show 48 + n < 256; omega)]
    · rw [dif_neg h, if_neg h, List.map_append, ih (n / 10) (by omega)]
      simp only [List.map_cons, List.map_nil]
      rw [UInt8.toNat_ofNat_of_lt' (by show 48 + n % 10 < 256; omega)]
theorem itoa_text (a : Int) (n : Nat) (ha : a = (n : Int)) (hn : n < 100) (w : World) : Calls Tryz.prog 62 #[.int .i64 a] w (TextIs w (numText n)) := by
  subst ha
  refine (Tryz.strconv_Itoa_small n hn w).mono ?_
  rintro e w' ⟨rfl, rfl⟩
  exact ⟨⟨_, rfl, dec_num n⟩, Below.refl _ _⟩
/-- what a writer promises -/
def Writes (b : Nat) (w : World) (v : Value) (l : List Nat) (e : Ending) (w' : World) : Prop := e = .returned (.tuple #[]) ∧ ∃ v', Bld w' b b l v' ∧ Wrote b b w v w' v'
def most : Nat := 140737488355000
/-- a new list of bytes, where it lies -/
theorem list_new (s : BitVec 256) (w : World) (hT : TabAt 0 Lib.deBruijn64tab w) : Calls Tryz.prog 93 #[SV s] w fun e w' =>
    ∃ a c, e = .returned (.slice a (elems s).length c) ∧ Below w.heap.size w w' ∧ ((elems s).length = 0 ∨ ∃ g, a = some ⟨g, 0, none⟩ ∧ w.heap.size ≤ g ∧ g < w'.heap.size ∧ (elems s).length ≤ c ∧ ∀ j, j < (elems s).length → w'.cell? ⟨g, j, none⟩ = some (u8v ((elems s).getD j 0))) := by
  refine (list_any s w hT).mono ?_
  rintro e w' ⟨v, rfl, hown, hb⟩
  obtain ⟨a, c, rfl⟩ := owns_form hown
  refine ⟨a, c, rfl, hb, ?_⟩
  rcases hown.2 with ⟨hv, h0⟩ | ⟨g, cap, cur, hv, hg, hblk, hnc, hcm, _⟩
  · exact .inl h0
  · cases hv
    refine .inr ⟨g, rfl, hg, lt_of_block hblk, hnc, fun j hj => ?_⟩
    rw [hown.cellAt j (by omega), List.getElem?_map, List.getElem?_eq_getElem hj, List.getD_eq_getElem?_getD, List.getElem?_eq_getElem hj]
    rfl
abbrev hexS : ByteArray := ⟨#[48, 49, 50, 51, 52, 53, 54, 55, 56, 57, 97, 98, 99, 100, 101, 102]⟩
theorem hex_at : ∀ c (h : c < hexS.size), (hexS[c]'h).toNat = hexD c := by decide +kernel
set_option maxHeartbeats 4000000 in
theorem wset_walk {W0 : World} (hT0 : TabAt 0 Lib.deBruijn64tab W0) (s : BitVec 256) (l : List Nat) (v : Value) (w : World) (hb0 : Below W0.heap.size W0 w) (hbld : Bld w W0.heap.size W0.heap.size l v) (hlen : l.length + 600 ≤ most) :
    Calls Tryz.prog 60 #[.pointer (some ⟨W0.heap.size, 0, none⟩), SV s] w (Writes W0.heap.size w v (l ++ setTxt s)) := by
  obtain ⟨b, hbe⟩ : ∃ b, b = W0.heap.size := ⟨_, rfl⟩
  rw [← hbe] at hbld hb0 ⊢
  have hal := fun o => (hbld.alloc o)
  have hlen256 := elems_length_le s
  have Hlen := Lib.hid (And.intro hlen hlen256)
  have HT := Lib.hid (And.intro hT0 (And.intro hb0 hbe))
  have Hbld := Lib.hid hbld
  have hw1 := fun o => write_byte b b l v 60 (w.alloc o) (hal o) (by have := hlen; unfold most at this; omega) (Nat.le_trans (Nat.le_of_lt hbld.lt) (by simp))
  have hbw := Nat.le_of_lt hbld.lt
  have HB := Lib.hid hbw
  clear hal hlen hT0 hbld hbw hb0 hbe
  go_enter Tryz.func60, Tryz.ntmps60
  go_wp2_with fail
  refine (hw1 _).mono ?_
  clear hw1
  rintro e w1 ⟨rfl, v1, h1, hww1⟩
  have hbox : SetAt w1 w.heap.size s := by
    have h0 : SetAt (w.alloc (.cells #[.int .u64 (word s 0), .int .u64 (word s 1), .int .u64 (word s 2), .int .u64 (word s 3)] 27)) w.heap.size s := World.alloc_heap_new w _
    unfold SetAt at h0 ⊢
    exact (hww1.keep w.heap.size (by simp) (by have := Hbld.out.lt; omega) ((Hbld.out.alloc _).ownKind h0 (by decide))).trans h0
  have hal1 := (Below.refl w.heap.size w).alloc (Nat.le_refl _) (.cells #[.int .u64 (word s 0), .int .u64 (word s 1), .int .u64 (word s 2), .int .u64 (word s 3)] 27)
  have hwr1 : Wrote b b w v w1 v1 := (Wrote.later v hal1 HB.out).trans hww1
  have hT1 := tab_below HT.out.1 (HT.out.2.2 ▸ HT.out.2.1.trans hwr1.below) (tab_pos HT.out.1)
  have hlist := list_new s w1 hT1
  have H1 := Lib.hid (And.intro h1 hwr1)
  have hset4 : Set4 w1 w.heap.size 0 s := by
    intro q hq
    rw [Nat.zero_add]
    unfold SetAt at hbox
    rw [Lib.cell_of_heap hbox]
    match q, hq with
    | 0, _ => rfl
    | 1, _ => rfl
    | 2, _ => rfl
    | 3, _ => rfl
  have Hset4 := Lib.hid hset4
  clear h1 hww1 hbox hwr1 hT1 hset4 hal1
  go_wp2_with (first | (refine wpList_load_set rfl _ rfl w.heap.size 0 s rfl Hset4.out ?_) | fail)
  refine hlist.mono ?_
  clear hlist
  rintro e w2 ⟨a, c, rfl, hb2, hmem⟩
  have h2 : Bld w2 b b (l ++ [60]) v1 := H1.out.1.later hb2
  have hwr2 : Wrote b b w v w2 v1 := H1.out.2.trans (Wrote.later v1 hb2 (Nat.le_of_lt H1.out.1.lt))
  have hown : (elems s).length = 0 ∨ ∃ g, a = some ⟨g, 0, none⟩ ∧ g < w2.heap.size ∧ g ≠ b ∧ v1.ownBlock ≠ some g ∧ (elems s).length ≤ c ∧ ∀ j, j < (elems s).length → w2.cell? ⟨g, j, none⟩ = some (u8v ((elems s).getD j 0)) := by
    rcases hmem with h | ⟨g, e1, e2, e3, e4, e5⟩
    · exact .inl h
    · exact .inr ⟨g, e1, e3, by have := H1.out.1.lt; omega, H1.out.1.ownLt e2, e4, e5⟩
  have hlt256 : ∀ j, j < (elems s).length → (elems s).getD j 0 < 256 := fun j hj => by
    rw [List.getD_eq_getElem?_getD, List.getElem?_eq_getElem hj]
    exact ((mem_elems s _).1 (List.getElem_mem hj)).1
  obtain ⟨L, hL⟩ : ∃ L, L = elems s := ⟨_, rfl⟩
  have hset : l ++ setTxt s = (l ++ [60] ++ L.flatMap hexT) ++ [62] := by rw [hL]; simp [setTxt]
  have Hset := Lib.hid hset
  have hlen2 : l.length + 600 ≤ most ∧ L.length ≤ 256 := by rw [hL]; exact Hlen.out
  rw [← hL] at hown hlt256 ⊢
  obtain ⟨n, hn⟩ : ∃ n, n = L.length := ⟨_, rfl⟩
  rw [← hn] at hown hlt256 ⊢
  have HN := Lib.hid (And.intro hn hlen2)
  have H2 := Lib.hid (And.intro h2 hwr2)
  have Hown := Lib.hid hown
  have Hlt := Lib.hid hlt256
  have hn256 : n ≤ 256 := by rw [hn]; exact hlen2.2
  clear hn hlen2 h2 hwr2 hown hlt256 hL hset hmem hb2 Hlen
  go_wp2_with fail
  go_loopw [11] (fun i wr => ∃ (k : Nat) (v' : Value), k ≤ n ∧ i = .int .i64 k ∧ Bld wr b b (l ++ [60] ++ (L.take k).flatMap hexT) v' ∧ Wrote b b w2 v1 wr v') (fun i _ => n - (intOf i).toNat)
  case atStart => exact ⟨0, v1, by omega, rfl, by simpa using H2.out.1, Wrote.refl _ _ _ _⟩
  case round =>
    obtain ⟨k, v', hk, rfl, hbw, hww⟩ := hrel
    by_cases hkn : k < n
    · have hd : decide ((k : Int) < n) = true := by simp; omega
      obtain ⟨g, rfl, hg, hgb, hgo, hgc, hcell⟩ := Hown.out.resolve_left (by omega)
      have hrd : wr.cell? ⟨g, k, none⟩ = some (u8v (L.getD k 0)) := by
        rw [World.cell?_of_block (hww.keep g hg hgb hgo)]
        exact hcell k hkn
      have hc256 := Hlt.out k hkn
      have hnext : l ++ [60] ++ (L.take (k + 1)).flatMap hexT = (l ++ [60] ++ (L.take k).flatMap hexT ++ [hexD (L.getD k 0 / 16)]) ++ [hexD (L.getD k 0 % 16)] := by
        have hkl : k < L.length := by rw [← HN.out.1]; exact hkn
        rw [List.take_succ_eq_append_getElem hkl, List.flatMap_append, List.getD_eq_getElem?_getD, List.getElem?_eq_getElem hkl]
        simp [hexT]
      have hsz : (l ++ [60] ++ (L.take k).flatMap hexT).length + 2 ≤ most := by
        have h1 := HN.out.2
        have h3 := hex_len (L.take k)
        rw [List.length_take] at h3
        simp only [List.length_append, List.length_singleton]; omega
      generalize L.getD k 0 = ch at *
      have Hnext := Lib.hid (And.intro hnext hsz)
      have Hbw := Lib.hid hbw
      have Hww := Lib.hid hww
      have hz1 : ((ch : Int)).tdiv 16 = ((ch / 16 : Nat) : Int) := rfl
      have hz2 : ((ch : Int)).tmod 16 = ((ch % 16 : Nat) : Int) := rfl
      have hgg : (k : Int) < (n : Int) := by omega
      have hB1 := Nat.le_of_lt hbw.lt
      have Hw1 := Lib.hid (write_byte b b _ v' (hexD (ch / 16)) wr hbw (by have := hsz; unfold most at this; omega) hB1)
      clear hnext hsz hbw hww hcell hg hgb hgo hB1
      unfold u8v at hrd
      go_wp2_with fail
      rw [hex_at]
      refine Hw1.out.mono ?_
      rintro e w3 ⟨rfl, v3, h3, hw3⟩
      have hB3 := Nat.le_of_lt h3.lt
      have Hw2 := Lib.hid (write_byte b b _ v3 (hexD (ch % 16)) w3 h3 (by have := Hnext.out.2; unfold most at this; rw [List.length_append, List.length_singleton]; omega) hB3)
      have H3 := Lib.hid (Hww.out.trans hw3)
      clear h3 hw3 hB3
      go_wp2_with fail
      rw [hex_at]
      refine Hw2.out.mono ?_
      rintro e w4 ⟨rfl, v4, h4, hw4⟩
      have H4 := Lib.hid (And.intro h4 (H3.out.trans hw4))
      clear h4 hw4
      go_wp2_with fail
      go_roundw
      case rel => exact ⟨k + 1, v4, by omega, by go_num, by rw [Hnext.out.1]; exact H4.out.1, H4.out.2⟩
      case measure => simp [intOf]; omega
    · have hd : decide ((k : Int) < n) = false := by simp; omega
      obtain rfl : k = n := by omega
      have hall : L.take k = L := List.take_of_length_le (by rw [← HN.out.1]; exact Nat.le_refl _)
      rw [hall] at hbw
      have hsz : (l ++ [60] ++ L.flatMap hexT).length + 2 ≤ most := by
        have h1 := HN.out.2
        have h3 := hex_len L
        simp only [List.length_append, List.length_singleton]; omega
      have Hfin := Lib.hid (And.intro hbw hww)
      have Hw1 := Lib.hid (write_byte b b _ v' 62 wr hbw (by have := hsz; unfold most at this; omega) (Nat.le_of_lt hbw.lt))
      clear hall hbw hww hsz
      go_wp2_with fail
      refine Hw1.out.mono ?_
      rintro e w3 ⟨rfl, v3, h3, hw3⟩
      have H3 := Lib.hid (And.intro h3 (H2.out.2.trans (Hfin.out.2.trans hw3)))
      clear h3 hw3
      go_wp2_with fail
      go_end0
      exact ⟨rfl, v3, by rw [Hset.out]; exact H3.out.1, H3.out.2⟩
/-- the world in which the builder was made; writing of one core -/
def WriteOk (W0 : World) (x : Cr) : Prop := ∀ (cs : List Value) (l : List Nat) (v : Value) (w : World), Cr.at W0 x cs → x.form = true → Below W0.heap.size W0 w → Bld w W0.heap.size W0.heap.size l v → l.length + x.txt.length + 600 ≤ most →
  Calls Tryz.prog 34 #[.pointer (some ⟨W0.heap.size, 0, none⟩), .agg cs.toArray] w (Writes W0.heap.size w v (l ++ x.txt))
set_option maxHeartbeats 4000000 in
theorem wparts_walk {W0 : World} (L : List Cr) (hL : ∀ y ∈ L, WriteOk W0 y) (hf : forms L = true) (a : Option Addr) (cap : Nat) (hmax : L.length ≤ maxLen)
    (hmem : L.length = 0 ∨ ∃ b off, a = some ⟨b, off, none⟩ ∧ L.length ≤ cap ∧ b < W0.heap.size ∧ coresAt W0 L b off) (before between after : ByteArray) (l : List Nat) (v : Value) (w : World) (hb : Below W0.heap.size W0 w) (hbld : Bld w W0.heap.size W0.heap.size l v)
    (hlen : l.length + (rowT (nats before) (nats between) L).length + after.size + 600 ≤ most) :
    Calls Tryz.prog 61 #[.pointer (some ⟨W0.heap.size, 0, none⟩), .slice a L.length cap, .string before, .string between, .string after] w (Writes W0.heap.size w v (l ++ (rowT (nats before) (nats between) L ++ nats after))) := by
  have hforms : ∀ y ∈ L, y.form = true := by
    clear hL hmem hmax hlen
    induction L with
    | nil => intro y hy; simp at hy
    | cons x L ih =>
      rw [forms_cons, Bool.and_eq_true] at hf
      intro y hy
      rcases List.mem_cons.1 hy with rfl | hy
      · exact hf.1
      · exact ih hf.2 y hy
  obtain ⟨n, hn⟩ : ∃ n, n = L.length := ⟨_, rfl⟩
  rw [← hn]
  have HN := Lib.hid hn
  have HLen := Lib.hid hlen
  have Hb := Lib.hid hb
  have Hbld := Lib.hid hbld
  have Hmem := Lib.hid hmem
  have Hforms := Lib.hid hforms
  have HL := Lib.hid hL
  have hnm : n ≤ maxLen := by rw [hn]; exact hmax
  clear hn hlen hb hbld hmem hforms hL hmax hf
  unfold maxLen at hnm
  go_enter Tryz.func61, Tryz.ntmps61
  go_wp2_with fail
  go_loopw [10, 16] (fun m i wr => ∃ (k : Nat) (v' : Value) (mk : ByteArray), k ≤ n ∧ m = .string mk ∧ i = .int .i64 k ∧ mk = (if L.take k = [] then before else between) ∧ Bld wr W0.heap.size W0.heap.size (l ++ rowT (nats before) (nats between) (L.take k)) v' ∧ Wrote W0.heap.size W0.heap.size w v wr v') (fun _ i _ => n - (intOf i).toNat)
  case atStart => exact ⟨0, v, before, by omega, rfl, rfl, by simp, by rw [List.take_zero, row_nil, List.append_nil]; exact Hbld.out, Wrote.refl _ _ _ _⟩
  case round =>
    obtain ⟨k, v', mk, hk, rfl, rfl, hmk, hbw, hww⟩ := hrel
    have Hmk := Lib.hid hmk
    clear hmk
    by_cases hkn : k < n
    · have hd : decide ((k : Int) < n) = true := by simp; omega
      have hkL : k < L.length := by rw [← HN.out]; exact hkn
      obtain ⟨bn, off, rfl, hcap, hbn, hnodes⟩ := Hmem.out.resolve_left (by omega)
      obtain ⟨cs, hc9, hcells, hat⟩ := nodes_get W0 bn L off hnodes k hkL
      have hbr : Below W0.heap.size W0 wr := Hb.out.trans hww.below
      have h9 : Core7 wr bn (off + k * 7) cs := ⟨hc9, fun q hq => by rw [hbr.cell (p := ⟨bn, off + k * 7 + q, none⟩) hbn]; exact hcells q hq⟩
      obtain ⟨kq, sq, nq, aq, lenq, capq, rfl⟩ := at_lit hat
      obtain ⟨y, hy⟩ : ∃ y, y = L[k] := ⟨_, rfl⟩
      rw [← hy] at hat
      have hyL : y ∈ L := by rw [hy]; exact List.getElem_mem hkL
      have hnext : l ++ rowT (nats before) (nats between) (L.take (k + 1)) = (l ++ rowT (nats before) (nats between) (L.take k)) ++ nats mk ++ y.txt := by
        rw [List.take_succ_eq_append_getElem hkL, row_append, row_cons, row_nil, List.append_nil, ← hy, Hmk.out]
        by_cases h0 : L.take k = []
        · rw [if_pos h0, if_pos h0]; simp only [List.append_assoc]
        · rw [if_neg h0, if_neg h0]; simp only [List.append_assoc]
      have htk := row_take (nats before) (nats between) L (k + 1)
      have hbound : (l ++ rowT (nats before) (nats between) (L.take (k + 1))).length + 600 ≤ most := by have := HLen.out; rw [List.length_append]; omega
      have hmk2 : between = (if L.take (k + 1) = [] then before else between) := by
        rw [if_neg]
        intro h
        have := congrArg List.length h
        rw [List.length_take, List.length_nil] at this
        omega
      have Hmk2 := Lib.hid hmk2
      have Hnext := Lib.hid (And.intro hnext hbound)
      have H9 := Lib.hid h9
      have Hat := Lib.hid hat
      have HyL := Lib.hid hyL
      have Hbw := Lib.hid hbw
      have Hww := Lib.hid hww
      have Hbr := Lib.hid hbr
      have hBr : W0.heap.size ≤ wr.heap.size := Nat.le_of_lt hbw.lt
      have HBr := Lib.hid hBr
      have hn0 : CoreIn (wr.alloc (.cells #[.int .i64 0, .int .u64 0, .int .u64 0, .int .u64 0, .int .u64 0, .int .i64 0, .slice none 0 0] 30)) wr.heap.size #[.int .i64 0, .int .u64 0, .int .u64 0, .int .u64 0, .int .u64 0, .int .i64 0, .slice none 0 0] := World.alloc_heap_new wr _
      have hal : Below wr.heap.size wr (wr.alloc (.cells #[.int .i64 0, .int .u64 0, .int .u64 0, .int .u64 0, .int .u64 0, .int .i64 0, .slice none 0 0] 30)) := (Below.refl _ _).alloc (Nat.le_refl _) _
      have Hn0 := Lib.hid (And.intro hn0 hal)
      clear hmk2 hnext hbound htk h9 hat hy hyL hbw hww hbr hBr hn0 hal hcells hnodes hc9 hkL hbn
      go_upto_region 4 with (first | (refine wpList_load_core rfl _ rfl bn (off + k * 7) _ rfl H9.out ?_) | (refine wpList_store_core rfl _ _ rfl wr.heap.size _ #[.int .i64 kq, .int .u64 (word sq 0), .int .u64 (word sq 1), .int .u64 (word sq 2), .int .u64 (word sq 3), .int .i64 nq, .slice aq lenq capq] rfl rfl Hn0.out.1 rfl rfl (by simp [Value.oneCell']) ?_; refine Hid.out ?_))
      refine Lib.hid ?_
      intro w3 hn3 ho3
      have hb3 := ho3.below Hn0.out.2 (Nat.le_refl _)
      have hlt3 : wr.heap.size < w3.heap.size := lt_of_block hn3
      have hW3 := Lib.hid (And.intro (Hbw.out.later hb3) (And.intro (Hww.out.trans (Wrote.later v' hb3 HBr.out)) (Hbr.out.trans (hb3.mono HBr.out))))
      have hne3 : wr.heap.size ≠ W0.heap.size := by have := Hbw.out.lt; omega
      have Hne3 := Lib.hid hne3
      have Hn3 := Lib.hid hn3
      have Hlt3 := Lib.hid hlt3
      have Hym := Lib.hid (Hforms.out y HyL.out)
      have Hnx := Hnext
      clear hn3 ho3 hb3 Hn0 H9 Hbw Hww Hbr hlt3 hne3
      go_wp2_with fail
      refine (write_text W0.heap.size W0.heap.size _ v' mk _ hW3.out.1 (by have := Hnx.out; rw [this.1] at this; have h2 := this.2; simp only [List.length_append, nats_length, most] at h2 ⊢; omega) (Nat.le_trans HBr.out (Nat.le_of_lt Hlt3.out))).mono ?_
      rintro e w4 ⟨rfl, v4, h4, hw4⟩
      have hn4 : CoreIn w4 wr.heap.size _ := (hw4.keep wr.heap.size Hlt3.out Hne3.out (hW3.out.1.ownKind Hn3.out (by decide))).trans Hn3.out
      have Hb9 := Lib.hid (core7_in (cs := [.int .i64 kq, .int .u64 (word sq 0), .int .u64 (word sq 1), .int .u64 (word sq 2), .int .u64 (word sq 3), .int .i64 nq, .slice aq lenq capq]) hn4 rfl)
      have H4 := Lib.hid (And.intro h4 (And.intro (hW3.out.2.1.trans hw4) (hW3.out.2.2.trans hw4.below)))
      clear hn4 h4 hw4
      go_wp2_with (first | (refine wpList_load_core rfl _ rfl wr.heap.size 0 _ rfl Hb9.out ?_))
      refine (HL.out y HyL.out _ _ v4 w4 Hat.out Hym.out H4.out.2.2 H4.out.1 (by have := Hnx.out; rw [this.1] at this; have h2 := this.2; simp only [List.length_append] at h2 ⊢; omega)).mono ?_
      rintro e w5 ⟨rfl, v5, h5, hw5⟩
      have H5 := Lib.hid (And.intro h5 (H4.out.2.1.trans hw5))
      clear h5 hw5
      go_wp2_with fail
      go_roundw
      case rel => exact ⟨k + 1, v5, between, by omega, rfl, by go_num, Hmk2.out, by rw [Hnx.out.1]; exact H5.out.1, H5.out.2⟩
      case measure => simp [intOf]; omega
    · have hd : decide ((k : Int) < n) = false := by simp; omega
      obtain rfl : k = n := by omega
      have hall : L.take k = L := List.take_of_length_le (by rw [← HN.out]; exact Nat.le_refl _)
      rw [hall] at hbw
      have Hfin := Lib.hid (And.intro hbw hww)
      have Hw1 := Lib.hid (write_text W0.heap.size W0.heap.size _ v' after wr hbw (by have := HLen.out; simp only [List.length_append, most] at this ⊢; omega) (Nat.le_of_lt hbw.lt))
      clear hall hbw hww
      go_wp2_with fail
      refine Hw1.out.mono ?_
      rintro e w3 ⟨rfl, v3, h3, hw3⟩
      have H3 := Lib.hid (And.intro h3 (Hfin.out.2.trans hw3))
      clear h3 hw3
      go_wp2_with fail
      go_end0
      exact ⟨rfl, v3, by rw [← List.append_assoc]; exact H3.out.1, H3.out.2⟩
theorem le_len {a c m l : Nat} (h : l + (a + c) + 600 ≤ m) : l + a + c + 600 ≤ m := by omega
theorem core_cells {W : World} {b : Nat} {c0 c1 c2 c3 c4 c5 c6 : Value} (h : CoreIn W b #[c0, c1, c2, c3, c4, c5, c6]) : W.cell? ⟨b, 0, none⟩ = some c0 ∧ W.cell? ⟨b, 5, none⟩ = some c5 ∧ W.cell? ⟨b, 6, none⟩ = some c6 := by
  refine ⟨?_, ?_, ?_⟩ <;> (rw [cells_at h]; rfl)
theorem core_set {W : World} {b : Nat} {k : Int} {s : BitVec 256} {n : Int} {v : Value} (h : CoreIn W b #[.int .i64 k, .int .u64 (word s 0), .int .u64 (word s 1), .int .u64 (word s 2), .int .u64 (word s 3), .int .i64 n, v]) : Set4 W b 1 s := by
  intro q hq
  rw [cells_at h]
  match q, hq with
  | 0, _ => rfl
  | 1, _ => rfl
  | 2, _ => rfl
  | 3, _ => rfl
theorem ok_cases {k n : Int} {s : BitVec 256} {len : Nat} (h : partOk k s n len = true) : k = 0 ∨ k = 1 ∨ k = 2 ∨ k = 3 ∨ k = 4 ∨ k = 5 ∨ k = 7 ∨ (k = 6 ∧ 1 ≤ n ∧ n ≤ 32) := by
  rw [partOk_eq, Bool.and_eq_true] at h
  have h2 := h.2
  unfold formedC at h2
  repeat' split at h2
  all_goals simp at h2
  all_goals omega
set_option maxHeartbeats 8000000 in
theorem write_step {W0 : World} (hT0 : TabAt 0 Lib.deBruijn64tab W0) (x : Cr) (hx : ∀ y ∈ x.nodes, WriteOk W0 y) : WriteOk W0 x := by
  intro cs l v w hat hf hb hbld hlen
  cases x with
  | mk k s n L =>
    have hx : ∀ y ∈ L, WriteOk W0 y := hx
    rw [at_mk] at hat
    obtain ⟨_, _, a, cap, rfl, hmax, hmem⟩ := hat
    rw [form_mk, Bool.and_eq_true] at hf
    obtain ⟨hfo, hfs⟩ := hf
    have hA := fun before between after l v w hb hbld hl => wparts_walk L hx hfs a cap hmax hmem before between after l v w hb hbld hl
    have HAll := Lib.hid hA
    obtain ⟨W, hWe⟩ : ∃ W, W = w.alloc (.cells #[.int .i64 k, .int .u64 (word s 0), .int .u64 (word s 1), .int .u64 (word s 2), .int .u64 (word s 3), .int .i64 n, .slice a L.length cap] 30) := ⟨_, rfl⟩
    have hbox : CoreIn W w.heap.size #[.int .i64 k, .int .u64 (word s 0), .int .u64 (word s 1), .int .u64 (word s 2), .int .u64 (word s 3), .int .i64 n, .slice a L.length cap] := by rw [hWe]; exact World.alloc_heap_new w _
    have hal : Below w.heap.size w W := by rw [hWe]; exact (Below.refl _ _).alloc (Nat.le_refl _) _
    have hB : W0.heap.size ≤ w.heap.size := Nat.le_of_lt hbld.lt
    have hbW : Below W0.heap.size W0 W := hb.trans (hal.mono hB)
    have hbldW := hbld.later hal
    have hwW : Wrote W0.heap.size W0.heap.size w v W v := Wrote.later v hal hB
    have hBW : W0.heap.size ≤ W.heap.size := Nat.le_trans hB hal.size
    obtain ⟨b0, b5, b6⟩ := core_cells hbox
    have HSet := Lib.hid (core_set hbox)
    have HW := Lib.hid (And.intro hbldW (And.intro hwW (And.intro hbW hBW)))
    have Hlen := Lib.hid hlen
    have hkind := ok_cases hfo
    obtain ⟨N, hN⟩ : ∃ N, N = L.length := ⟨_, rfl⟩
    rw [← hN] at b6 hWe
    rw [← hN]
    have HN := Lib.hid hN
    have HT := Lib.hid hT0
    clear hfs hfo hx hmem hmax hA hbox hal hB hb hbW hbldW hbld hwW hBW hlen hN hT0
    rcases hkind with rfl | rfl | rfl | rfl | rfl | rfl | rfl | ⟨rfl, hn1, hn2⟩
    · have Hw := Lib.hid (write_byte W0.heap.size W0.heap.size l v 48 W HW.out.1 (by have := Hlen.out; unfold most at this; omega) HW.out.2.2.2)
      go_enter Tryz.func34, Tryz.ntmps34
      go_wp2_with fail
      rw [← hWe]
      clear hWe
      refine Hw.out.mono ?_
      rintro e w1 ⟨rfl, v1, h1, hw1⟩
      have H1 := Lib.hid (And.intro h1 (HW.out.2.1.trans hw1))
      clear h1 hw1
      go_wp2_with fail
      go_end0
      exact ⟨rfl, v1, H1.out⟩
    · have Hw := Lib.hid (write_byte W0.heap.size W0.heap.size l v 49 W HW.out.1 (by have := Hlen.out; unfold most at this; omega) HW.out.2.2.2)
      go_enter Tryz.func34, Tryz.ntmps34
      go_wp2_with fail
      rw [← hWe]
      clear hWe
      refine Hw.out.mono ?_
      rintro e w1 ⟨rfl, v1, h1, hw1⟩
      have H1 := Lib.hid (And.intro h1 (HW.out.2.1.trans hw1))
      clear h1 hw1
      go_wp2_with fail
      go_end0
      exact ⟨rfl, v1, H1.out⟩
    · have Hw := Lib.hid (wset_walk HT.out s l v W HW.out.2.2.1 HW.out.1 (by have := Hlen.out; omega))
      go_enter Tryz.func34, Tryz.ntmps34
      go_upto_region 7 with fail
      rw [← hWe]
      clear hWe
      go_wp2_with (first | (refine wpList_load_set rfl _ rfl w.heap.size 1 s rfl HSet.out ?_) | fail)
      refine Hw.out.mono ?_
      rintro e w1 ⟨rfl, v1, h1, hw1⟩
      have H1 := Lib.hid (And.intro h1 (HW.out.2.1.trans hw1))
      clear h1 hw1
      go_wp2_with fail
      go_end0
      exact ⟨rfl, v1, H1.out⟩
    · have hlen := Hlen.out
      rw [show (Cr.mk 3 s n L).txt = rowT [40] [46] L ++ [41] from by rw [txt_mk]; rfl, List.length_append] at hlen
      have hc := HAll.out ⟨#[40]⟩ ⟨#[46]⟩ ⟨#[41]⟩ l v W HW.out.2.2.1 HW.out.1 (le_len hlen)
      clear hlen
      rw [← HN.out] at hc
      go_enter Tryz.func34, Tryz.ntmps34
      go_wp2_with fail
      rw [← hWe]
      clear hWe
      refine hc.mono ?_
      rintro e w1 ⟨rfl, v1, h1, hw1⟩
      have H1 := Lib.hid (And.intro h1 (HW.out.2.1.trans hw1))
      clear h1 hw1 hc
      go_wp2_with fail
      go_end0
      exact ⟨rfl, v1, H1.out⟩
    · have hlen := Hlen.out
      rw [show (Cr.mk 4 s n L).txt = rowT [40] [124] L ++ [41] from by rw [txt_mk]; rfl, List.length_append] at hlen
      have hc := HAll.out ⟨#[40]⟩ ⟨#[124]⟩ ⟨#[41]⟩ l v W HW.out.2.2.1 HW.out.1 (le_len hlen)
      clear hlen
      rw [← HN.out] at hc
      go_enter Tryz.func34, Tryz.ntmps34
      go_wp2_with fail
      rw [← hWe]
      clear hWe
      refine hc.mono ?_
      rintro e w1 ⟨rfl, v1, h1, hw1⟩
      have H1 := Lib.hid (And.intro h1 (HW.out.2.1.trans hw1))
      clear h1 hw1 hc
      go_wp2_with fail
      go_end0
      exact ⟨rfl, v1, H1.out⟩
    · have hlen := Hlen.out
      rw [show (Cr.mk 5 s n L).txt = rowT [40] [] L ++ [42, 41] from by rw [txt_mk]; rfl, List.length_append] at hlen
      have hc := HAll.out ⟨#[40]⟩ ⟨#[]⟩ ⟨#[42, 41]⟩ l v W HW.out.2.2.1 HW.out.1 (le_len hlen)
      clear hlen
      rw [← HN.out] at hc
      go_enter Tryz.func34, Tryz.ntmps34
      go_wp2_with fail
      rw [← hWe]
      clear hWe
      refine hc.mono ?_
      rintro e w1 ⟨rfl, v1, h1, hw1⟩
      have H1 := Lib.hid (And.intro h1 (HW.out.2.1.trans hw1))
      clear h1 hw1 hc
      go_wp2_with fail
      go_end0
      exact ⟨rfl, v1, H1.out⟩
    · have hlen := Hlen.out
      rw [show (Cr.mk 7 s n L).txt = rowT [40, 126] [] L ++ [41] from by rw [txt_mk]; rfl, List.length_append] at hlen
      have hc := HAll.out ⟨#[40, 126]⟩ ⟨#[]⟩ ⟨#[41]⟩ l v W HW.out.2.2.1 HW.out.1 (le_len hlen)
      clear hlen
      rw [← HN.out] at hc
      go_enter Tryz.func34, Tryz.ntmps34
      go_wp2_with fail
      rw [← hWe]
      clear hWe
      refine hc.mono ?_
      rintro e w1 ⟨rfl, v1, h1, hw1⟩
      have H1 := Lib.hid (And.intro h1 (HW.out.2.1.trans hw1))
      clear h1 hw1 hc
      go_wp2_with fail
      go_end0
      exact ⟨rfl, v1, H1.out⟩
    · obtain ⟨m, rfl⟩ : ∃ m : Nat, n = (m : Int) := ⟨n.toNat, by omega⟩
      obtain ⟨t, ht, hit⟩ : ∃ t : ByteArray, nats t = numText m ∧ ∀ w : World, Calls Tryz.prog 62 #[.int .i64 (m : Int)] w fun e w' => e = .returned (.string t) ∧ w' = w :=
        ⟨⟨(Lib.decDigits m).toArray⟩, dec_num m, fun w => Tryz.strconv_Itoa_small m (by omega) w⟩
      have hlen := Hlen.out
      rw [show (Cr.mk 6 s m L).txt = rowT (40 :: (numText m ++ [58])) [] L ++ [41] from by rw [txt_mk]; rfl, List.length_append] at hlen
      have hts : t.size ≤ 3 := by rw [size_nats ht]; exact numText_len m (by omega)
      have f1 : ¬ (9223372036854775807 : Int) < 1 + t.size := by omega
      have f2 : ¬ (9223372036854775807 : Int) < 1 + t.size + 1 := by omega
      have F1 := Lib.hid (show ¬ (9223372036854775807 : Nat) < 1 + t.size from by omega)
      have F2 := Lib.hid (show ¬ (9223372036854775807 : Nat) < 1 + t.size + 1 from by omega)
      obtain ⟨u, hu⟩ : ∃ u : ByteArray, u = ⟨#[40]⟩ ++ t ++ ⟨#[58]⟩ := ⟨_, rfl⟩
      have hun : nats u = 40 :: (numText m ++ [58]) := by rw [hu, nats_add, nats_add, ht]; simp [nats]
      rw [← hun] at hlen
      have hbd : Below W.heap.size W W.drew := (Below.refl _ _).drew
      have hc := HAll.out u ⟨#[]⟩ ⟨#[41]⟩ l v W.drew (HW.out.2.2.1.trans (hbd.mono HW.out.2.2.2)) (HW.out.1.later hbd) (le_len hlen)
      rw [← HN.out] at hc
      have Hc := Lib.hid hc
      have Hun := Lib.hid hun
      have Hbd := Lib.hid hbd
      clear hlen hn1 hn2 hun hc hbd hts ht
      go_enter Tryz.func34, Tryz.ntmps34
      go_upto_region 15 with fail
      rw [← hWe]
      clear hWe
      go_still_tail 8, (by kernel_rfl)
      still_call (hit _)
      refine wpStill_step (fun K hK => ?_)
      go_simp
      rw [if_neg F1.out]
      refine ⟨rfl, hK _ ?_⟩
      clear hK K
      refine wpStill_step (fun K hK => ?_)
      go_simp
      rw [if_neg F2.out]
      refine ⟨rfl, hK _ ?_⟩
      clear hK K
      refine wpStill_nil ?_
      change wpList _ _ _ _ _ W.drew
      rw [← hu]
      clear hu f1 f2 hit
      go_wp2_with fail
      refine Hc.out.mono ?_
      rintro e w1 ⟨rfl, v1, h1, hw1⟩
      have H1 := Lib.hid (And.intro h1 ((HW.out.2.1.trans (Wrote.later v Hbd.out HW.out.2.2.2)).trans hw1))
      clear h1 hw1
      go_wp2_with fail
      go_end0
      refine ⟨rfl, v1, ?_, H1.out.2⟩
      have := H1.out.1
      rw [Hun.out] at this
      exact this
theorem write_any {W0 : World} (hT0 : TabAt 0 Lib.deBruijn64tab W0) : ∀ (m : Nat) (x : Cr), x.count ≤ m → WriteOk W0 x
  | 0, x, hm => by have := Cr.count_pos x; omega
  | m + 1, x, hm => write_step hT0 x fun y hy => write_any hT0 m y (by have := count_mem hy; omega)
def textC (x : Cr) : List Nat := if goodC x then x.txt else []
set_option maxHeartbeats 4000000 in
theorem text_walk {x : Cr} {cs : List Value} {w : World} (hat : Cr.at w x cs) (hT : TabAt 0 Lib.deBruijn64tab w) :
    Calls Tryz.prog 12 #[.agg cs.toArray] w (TextIs w (textC x)) := by
  obtain ⟨kq, sq, nq, aq, lenq, capq, rfl⟩ := at_lit hat
  obtain ⟨W, hW⟩ : ∃ W, W = w.alloc (.cells #[.int .i64 kq, .int .u64 (word sq 0), .int .u64 (word sq 1), .int .u64 (word sq 2), .int .u64 (word sq 3), .int .i64 nq, .slice aq lenq capq] 30) := ⟨_, rfl⟩
  have hal : Below w.heap.size w W := by rw [hW]; exact (Below.refl _ _).alloc (Nat.le_refl _) _
  have hbox : CoreIn W w.heap.size #[.int .i64 kq, .int .u64 (word sq 0), .int .u64 (word sq 1), .int .u64 (word sq 2), .int .u64 (word sq 3), .int .i64 nq, .slice aq lenq capq] := by rw [hW]; exact World.alloc_heap_new w _
  have hgd := good_walk (Cr.at_below hal (Nat.le_refl _) _ _ hat)
  have hb7 := core7_in (cs := [.int .i64 kq, .int .u64 (word sq 0), .int .u64 (word sq 1), .int .u64 (word sq 2), .int .u64 (word sq 3), .int .i64 nq, .slice aq lenq capq]) hbox rfl
  obtain ⟨q, hq⟩ : ∃ q, q = goodC x := ⟨_, rfl⟩
  rw [← hq] at hgd
  have Hgd := Lib.hid hgd
  have Hb7 := Lib.hid hb7
  have Hal := Lib.hid (And.intro hal hbox)
  have Hat := Lib.hid (And.intro hat hT)
  have HQ := Lib.hid hq
  clear hgd hb7 hal hbox hat hT hq
  cases q
  · have HR := Lib.hid (show textC x = [] from by unfold textC; rw [← HQ.out]; rfl)
    go_enter Tryz.func12, Tryz.ntmps12
    go_upto_region 1 with fail
    rw [← hW]
    clear hW
    go_wp2_with (first | (refine wpList_load_core rfl _ rfl w.heap.size 0 _ rfl Hb7.out ?_) | (go_at_call 11; refine Hgd.out.mono ?_; rintro e w1 ⟨rfl, hb1⟩; have Hb1 := Lib.hid hb1; clear hb1))
    go_ret
    exact ⟨⟨⟨#[]⟩, rfl, by rw [HR.out]; rfl⟩, Hal.out.1.trans (Hb1.out.mono Hal.out.1.size)⟩
  · have hg : goodC x = true := HQ.out.symm
    have HR := Lib.hid (show textC x = x.txt from by unfold textC; rw [hg]; rfl)
    unfold goodC at hg
    rw [Bool.and_eq_true, decide_eq_true_eq] at hg
    have hlen := txt_len x hg.2
    have Hlt := Lib.hid (txt_lt x)
    have hwr := fun (W0 : World) (hb : Below w.heap.size w W0) => write_any (tab_below Hat.out.2 hb (tab_pos Hat.out.2)) x.count x (Nat.le_refl _) _ [] _ _ (Cr.at_below hb (Nat.le_refl _) _ _ Hat.out.1) hg.2 ((Below.refl _ _).alloc (Nat.le_refl _) (.cells #[.pointer none, .slice none 0 0] 81)) (bld_fresh W0) (by simp only [List.length_nil, most]; omega)
    have Hwr := Lib.hid hwr
    clear hg hlen hwr HQ
    go_enter Tryz.func12, Tryz.ntmps12
    go_upto_region 1 with fail
    rw [← hW]
    clear hW
    go_upto_region 3 with (first | (refine wpList_load_core rfl _ rfl w.heap.size 0 _ rfl Hb7.out ?_) | (go_at_call 11; refine Hgd.out.mono ?_; rintro e w1 ⟨rfl, hb1⟩; have Hb1 := Lib.hid hb1; clear hb1))
    have hw1 := Hal.out.1.trans (Hb1.out.mono Hal.out.1.size)
    have hal2 : Below w1.heap.size w1 (w1.alloc (.cells #[.pointer none, .slice none 0 0] 81)) := (Below.refl _ _).alloc (Nat.le_refl _) _
    have hbx : CoreIn (w1.alloc (.cells #[.pointer none, .slice none 0 0] 81)) w.heap.size _ := (hal2.block w.heap.size (Nat.lt_of_lt_of_le (lt_of_block Hal.out.2) Hb1.out.size)).trans ((Hb1.out.block w.heap.size (lt_of_block Hal.out.2)).trans Hal.out.2)
    have Hb8 := Lib.hid (core7_in (cs := [.int .i64 kq, .int .u64 (word sq 0), .int .u64 (word sq 1), .int .u64 (word sq 2), .int .u64 (word sq 3), .int .i64 nq, .slice aq lenq capq]) hbx rfl)
    have Hc := Lib.hid (Hwr.out w1 hw1)
    have Hw1 := Lib.hid (And.intro hw1 hal2)
    clear hw1 hal2 hbx Hwr
    go_wp2_with (first | (refine wpList_load_core rfl _ rfl w.heap.size 0 _ rfl Hb8.out ?_))
    refine Hc.out.mono ?_
    rintro e w2 ⟨rfl, v2, h2, hw2⟩
    rw [List.nil_append] at h2
    have H2 := Lib.hid (And.intro h2 (Hw1.out.2.trans hw2.below))
    clear h2 hw2
    go_wp2_with fail
    refine (bld_string _ _ _ v2 _ H2.out.1 Hlt.out (Nat.le_of_lt H2.out.1.lt)).mono ?_
    rintro e w3 ⟨rfl, hb3⟩
    have Hb3 := Lib.hid hb3
    clear hb3
    go_wp2_with fail
    go_ret
    exact ⟨⟨_, rfl, by rw [HR.out]; exact nats_bytes Hlt.out⟩, Hw1.out.1.trans ((H2.out.2.trans Hb3.out).mono Hw1.out.1.size)⟩
end K
end Go.Proofs.YtlgpbgcheeaalaaGreatDoor
/-! The text of a core tells the core: it is read back. -/
namespace Go.Proofs.YtlgpbgcheeaalaaGreatDoor
namespace K
set_option maxRecDepth 100000
open Go.RowKit
def isD (c : Nat) : Bool := decide (48 ≤ c) && decide (c ≤ 57)
def numOf (l : List Nat) : Nat := l.foldl (fun a c => a * 10 + (c - 48)) 0
def unD (c : Nat) : Nat := if c < 97 then c - 48 else c - 87
def unH : List Nat → List Nat
  | a :: b :: l => (unD a * 16 + unD b) :: unH l
  | _ => []
def readC : Nat → List Nat → Option (Cr × List Nat)
  | 0, _ => none
  | _, [] => none
  | f + 1, c :: r =>
    if c = 48 then some (.mk 0 0 0 [], r)
    else if c = 49 then some (.mk 1 0 0 [], r)
    else if c = 60 then some (.mk 2 (setOf (unH (r.takeWhile (· != 62)))) 0 [], (r.dropWhile (· != 62)).tail)
    else if r.head? = some 126 then (readC f r.tail).bind fun p => some (.mk 7 0 0 [p.1], p.2.tail)
    else if (r.dropWhile isD).head? = some 58 then (readC f (r.dropWhile isD).tail).bind fun p => some (.mk 6 0 (numOf (r.takeWhile isD) : Nat) [p.1], p.2.tail)
    else (readC f r).bind fun p =>
      if p.2.head? = some 42 then some (.mk 5 0 0 [p.1], p.2.tail.tail)
      else if p.2.head? = some 46 then (readC f p.2.tail).bind fun q => some (.mk 3 0 0 [p.1, q.1], q.2.tail)
      else (readC f p.2.tail).bind fun q => some (.mk 4 0 0 [p.1, q.1], q.2.tail)
theorem form_kinds : ∀ (x : Cr), x.form = true → x = .mk 0 0 0 [] ∨ x = .mk 1 0 0 [] ∨ (∃ s, x = .mk 2 s 0 []) ∨ (∃ a b, (x = .mk 3 0 0 [a, b] ∨ x = .mk 4 0 0 [a, b]) ∧ a.form = true ∧ b.form = true) ∨ (∃ a, (x = .mk 5 0 0 [a] ∨ x = .mk 7 0 0 [a]) ∧ a.form = true) ∨ (∃ n a, x = .mk 6 0 n [a] ∧ 1 ≤ n ∧ n ≤ 32 ∧ a.form = true)
  | .mk k s n l, h => by
    rw [form_mk, Bool.and_eq_true] at h
    obtain ⟨h1, h2⟩ := h
    have hone : l.length = 1 → ∃ a, l = [a] ∧ a.form = true := fun hl => by
      obtain ⟨a, rfl⟩ := List.length_eq_one_iff.1 hl
      rw [forms_cons, forms_nil, Bool.and_true] at h2
      exact ⟨a, rfl, h2⟩
    have htwo : l.length = 2 → ∃ a b, l = [a, b] ∧ a.form = true ∧ b.form = true := fun hl => by
      obtain ⟨a, b, rfl⟩ : ∃ a b, l = [a, b] := by
        match l, hl with
        | [a, b], _ => exact ⟨a, b, rfl⟩
      rw [forms_cons, forms_cons, forms_nil, Bool.and_true, Bool.and_eq_true] at h2
      exact ⟨a, b, rfl, h2⟩
    rcases ok_cases h1 with rfl | rfl | rfl | rfl | rfl | rfl | rfl | ⟨rfl, g1, g2⟩
    · simp [partOk] at h1
      obtain ⟨⟨rfl, rfl⟩, rfl⟩ := h1
      exact .inl rfl
    · simp [partOk] at h1
      obtain ⟨⟨rfl, rfl⟩, rfl⟩ := h1
      exact .inr (.inl rfl)
    · simp [partOk] at h1
      obtain ⟨rfl, rfl⟩ := h1
      exact .inr (.inr (.inl ⟨s, rfl⟩))
    · simp [partOk] at h1
      obtain ⟨⟨rfl, rfl⟩, hl⟩ := h1
      obtain ⟨a, b, rfl, ha, hb⟩ := htwo hl
      exact .inr (.inr (.inr (.inl ⟨a, b, .inl rfl, ha, hb⟩)))
    · simp [partOk] at h1
      obtain ⟨⟨rfl, rfl⟩, hl⟩ := h1
      obtain ⟨a, b, rfl, ha, hb⟩ := htwo hl
      exact .inr (.inr (.inr (.inl ⟨a, b, .inr rfl, ha, hb⟩)))
    · simp [partOk] at h1
      obtain ⟨⟨rfl, rfl⟩, hl⟩ := h1
      obtain ⟨a, rfl, ha⟩ := hone hl
      exact .inr (.inr (.inr (.inr (.inl ⟨a, .inl rfl, ha⟩))))
    · simp [partOk] at h1
      obtain ⟨⟨rfl, rfl⟩, hl⟩ := h1
      obtain ⟨a, rfl, ha⟩ := hone hl
      exact .inr (.inr (.inr (.inr (.inl ⟨a, .inr rfl, ha⟩))))
    · simp [partOk] at h1
      obtain ⟨rfl, ⟨hl, _⟩, _⟩ := h1
      obtain ⟨a, rfl, ha⟩ := hone hl
      exact .inr (.inr (.inr (.inr (.inr ⟨n, a, rfl, g1, g2, ha⟩))))
theorem counts_one8 (x : Cr) : counts [x] = x.count := by rw [counts_cons, counts_nil]; omega
theorem counts_two8 (x y : Cr) : counts [x, y] = x.count + y.count := by rw [counts_cons, counts_one8]
theorem txt0 : (Cr.mk 0 0 0 []).txt = [48] := by rw [txt_mk, if_pos rfl]
theorem txt1 : (Cr.mk 1 0 0 []).txt = [49] := by rw [txt_mk, if_neg (by decide), if_pos rfl]
theorem txt2 (s : BitVec 256) : (Cr.mk 2 s 0 []).txt = setTxt s := by rw [txt_mk, if_neg (by decide), if_neg (by decide), if_pos rfl]
theorem txt3 (a b : Cr) : (Cr.mk 3 0 0 [a, b]).txt = 40 :: (a.txt ++ 46 :: (b.txt ++ [41])) := by
  rw [txt_mk, if_neg (by decide), if_neg (by decide), if_neg (by decide), if_pos rfl, row_cons, row_cons, row_nil]; simp
theorem txt4 (a b : Cr) : (Cr.mk 4 0 0 [a, b]).txt = 40 :: (a.txt ++ 124 :: (b.txt ++ [41])) := by
  rw [txt_mk, if_neg (by decide), if_neg (by decide), if_neg (by decide), if_neg (by decide), if_pos rfl, row_cons, row_cons, row_nil]; simp
theorem txt5 (a : Cr) : (Cr.mk 5 0 0 [a]).txt = 40 :: (a.txt ++ [42, 41]) := by
  rw [txt_mk, if_neg (by decide), if_neg (by decide), if_neg (by decide), if_neg (by decide), if_neg (by decide), if_pos rfl, row_cons, row_nil]; simp
theorem txt6 (n : Int) (a : Cr) : (Cr.mk 6 0 n [a]).txt = 40 :: (numText n.toNat ++ 58 :: (a.txt ++ [41])) := by
  rw [txt_mk, if_neg (by decide), if_neg (by decide), if_neg (by decide), if_neg (by decide), if_neg (by decide), if_neg (by decide), if_pos rfl, row_cons, row_nil]; simp
theorem txt7 (a : Cr) : (Cr.mk 7 0 0 [a]).txt = 40 :: 126 :: (a.txt ++ [41]) := by
  rw [txt_mk, if_neg (by decide), if_neg (by decide), if_neg (by decide), if_neg (by decide), if_neg (by decide), if_neg (by decide), if_neg (by decide), if_pos rfl, row_cons, row_nil]; simp
/-- how a text begins -/
theorem txt_head {x : Cr} (h : x.form = true) : x.txt = [48] ∨ x.txt = [49] ∨ (∃ t, x.txt = 60 :: t) ∨ ∃ t, x.txt = 40 :: t := by
  rcases form_kinds x h with rfl | rfl | ⟨s, rfl⟩ | ⟨a, b, rfl | rfl, _⟩ | ⟨a, rfl | rfl, _⟩ | ⟨n, a, rfl, _⟩
  · exact .inl txt0
  · exact .inr (.inl txt1)
  · exact .inr (.inr (.inl ⟨_, txt2 s⟩))
  · exact .inr (.inr (.inr ⟨_, txt3 a b⟩))
  · exact .inr (.inr (.inr ⟨_, txt4 a b⟩))
  · exact .inr (.inr (.inr ⟨_, txt5 a⟩))
  · exact .inr (.inr (.inr ⟨_, txt7 a⟩))
  · exact .inr (.inr (.inr ⟨_, txt6 n a⟩))
theorem no_num {x : Cr} (h : x.form = true) {z : Nat} (hz : isD z = false) (h58 : z ≠ 58) (r : List Nat) : ((x.txt ++ z :: r).dropWhile isD).head? ≠ some 58 ∧ (x.txt ++ z :: r).head? ≠ some 126 := by
  rcases txt_head h with e | e | ⟨t, e⟩ | ⟨t, e⟩
  · rw [e]
    refine ⟨?_, by simp⟩
    rw [List.singleton_append, List.dropWhile_cons_of_pos (by decide), List.dropWhile_cons_of_neg (by rw [hz]; decide)]
    simpa using h58
  · rw [e]
    refine ⟨?_, by simp⟩
    rw [List.singleton_append, List.dropWhile_cons_of_pos (by decide), List.dropWhile_cons_of_neg (by rw [hz]; decide)]
    simpa using h58
  · rw [e, List.cons_append, List.dropWhile_cons_of_neg (by decide)]
    simp
  · rw [e, List.cons_append, List.dropWhile_cons_of_neg (by decide)]
    simp
theorem num_small : ∀ n : Fin 33, 1 ≤ n.val → (numText n.val).all isD = true ∧ numOf (numText n.val) = n.val ∧ (numText n.val).head? ≠ some 126 ∧ numText n.val ≠ [] := by decide +kernel
theorem take_all {p : Nat → Bool} : ∀ (A : List Nat) (z : Nat) (r : List Nat), A.all p = true → p z = false → (A ++ z :: r).takeWhile p = A ∧ (A ++ z :: r).dropWhile p = z :: r
  | [], z, r, _, hz => by
    rw [List.nil_append, List.takeWhile_cons_of_neg (by rw [hz]; decide), List.dropWhile_cons_of_neg (by rw [hz]; decide)]
    exact ⟨rfl, rfl⟩
  | a :: A, z, r, h, hz => by
    rw [List.all_cons, Bool.and_eq_true] at h
    obtain ⟨h1, h2⟩ := take_all A z r h.2 hz
    rw [List.cons_append, List.takeWhile_cons_of_pos h.1, List.dropWhile_cons_of_pos h.1, h1, h2]
    exact ⟨rfl, rfl⟩
theorem hex_small : ∀ b : Fin 16, (hexD b.val != 62) = true ∧ unD (hexD b.val) = b.val := by decide +kernel
theorem hex_back : ∀ l : List Nat, (∀ b ∈ l, b < 256) → (l.flatMap hexT).all (· != 62) = true ∧ unH (l.flatMap hexT) = l
  | [], _ => ⟨rfl, rfl⟩
  | b :: l, h => by
    obtain ⟨h1, h2⟩ := hex_back l fun c hc => h c (by simp [hc])
    have hb := h b (by simp)
    have g1 := hex_small ⟨b / 16, by omega⟩
    have g2 := hex_small ⟨b % 16, by omega⟩
    simp only at g1 g2
    rw [List.flatMap_cons]
    show ([hexD (b / 16), hexD (b % 16)] ++ l.flatMap hexT).all (· != 62) = true ∧ unH ([hexD (b / 16), hexD (b % 16)] ++ l.flatMap hexT) = b :: l
    refine ⟨by simp only [List.cons_append, List.nil_append, List.all_cons, g1.1, g2.1, h1]; rfl, ?_⟩
    show (unD (hexD (b / 16)) * 16 + unD (hexD (b % 16))) :: unH (l.flatMap hexT) = b :: l
    rw [g1.2, g2.2, h2]
    congr 1
    omega
theorem elems_lt8 (s : BitVec 256) : ∀ b ∈ elems s, b < 256 := fun b hb => by
  unfold elems at hb
  exact List.mem_range.1 (List.mem_filter.1 hb).1
theorem setOf_elems8 (s : BitVec 256) : setOf (elems s) = s := by
  apply BitVec.eq_of_getLsbD_eq
  intro b hb
  rw [setOf_bit _ _ hb, Bool.eq_iff_iff, decide_eq_true_eq, mem_elems]
  exact ⟨fun h => h.2, fun h => ⟨hb, h⟩⟩
theorem read_txt : ∀ (f : Nat) (x : Cr) (r : List Nat), x.count ≤ f → x.form = true → readC f (x.txt ++ r) = some (x, r)
  | 0, x, _, hf, _ => by have := x.count_pos; omega
  | f + 1, x, r, hf, h => by
    rcases form_kinds x h with rfl | rfl | ⟨s, rfl⟩ | ⟨a, b, rfl | rfl, ha, hb⟩ | ⟨a, rfl | rfl, ha⟩ | ⟨n, a, rfl, h1, h2, ha⟩
    · rw [txt0]; rfl
    · rw [txt1]; rfl
    · rw [txt2]
      obtain ⟨h1, h2⟩ := hex_back (elems s) (elems_lt8 s)
      obtain ⟨h3, h4⟩ := take_all (p := (· != 62)) ((elems s).flatMap hexT) 62 r h1 (by decide)
      show readC (f + 1) (60 :: (((elems s).flatMap hexT ++ [62]) ++ r)) = _
      rw [List.append_assoc, List.singleton_append]
      unfold readC
      rw [if_neg (by decide), if_neg (by decide), if_pos rfl, h3, h4, h2, setOf_elems8]
      rfl
    · rw [count_mk, counts_two8] at hf
      rw [txt3, List.cons_append, List.append_assoc, List.cons_append, List.append_assoc, List.singleton_append]
      obtain ⟨n1, n2⟩ := no_num ha (z := 46) (by decide) (by decide) (b.txt ++ 41 :: r)
      unfold readC
      rw [if_neg (by decide), if_neg (by decide), if_neg (by decide), if_neg n2, if_neg n1, read_txt f a _ (by omega) ha, Option.bind_some]
      show (if (46 :: (b.txt ++ 41 :: r)).head? = some 42 then _ else _) = _
      rw [if_neg (by simp)]
      show (if (46 :: (b.txt ++ 41 :: r)).head? = some 46 then _ else _) = _
      rw [if_pos (show (46 :: (b.txt ++ 41 :: r)).head? = some 46 from rfl)]
      show (readC f (b.txt ++ 41 :: r)).bind _ = _
      rw [read_txt f b _ (by omega) hb]
      rfl
    · rw [count_mk, counts_two8] at hf
      rw [txt4, List.cons_append, List.append_assoc, List.cons_append, List.append_assoc, List.singleton_append]
      obtain ⟨n1, n2⟩ := no_num ha (z := 124) (by decide) (by decide) (b.txt ++ 41 :: r)
      unfold readC
      rw [if_neg (by decide), if_neg (by decide), if_neg (by decide), if_neg n2, if_neg n1, read_txt f a _ (by omega) ha, Option.bind_some]
      show (if (124 :: (b.txt ++ 41 :: r)).head? = some 42 then _ else _) = _
      rw [if_neg (by simp)]
      show (if (124 :: (b.txt ++ 41 :: r)).head? = some 46 then _ else _) = _
      rw [if_neg (by simp)]
      show (readC f (b.txt ++ 41 :: r)).bind _ = _
      rw [read_txt f b _ (by omega) hb]
      rfl
    · rw [count_mk, counts_one8] at hf
      rw [txt5, List.cons_append, List.append_assoc, List.cons_append, List.singleton_append]
      obtain ⟨n1, n2⟩ := no_num ha (z := 42) (by decide) (by decide) (41 :: r)
      unfold readC
      rw [if_neg (by decide), if_neg (by decide), if_neg (by decide), if_neg n2, if_neg n1, read_txt f a _ (by omega) ha, Option.bind_some]
      rfl
    · rw [count_mk, counts_one8] at hf
      rw [txt7, List.cons_append, List.cons_append, List.append_assoc, List.singleton_append]
      unfold readC
      rw [if_neg (by decide), if_neg (by decide), if_neg (by decide), if_pos (show (126 :: (a.txt ++ 41 :: r)).head? = some 126 from rfl)]
      show (readC f (a.txt ++ 41 :: r)).bind _ = _
      rw [read_txt f a _ (by omega) ha]
      rfl
    · rw [count_mk, counts_one8] at hf
      rw [txt6, List.cons_append, List.append_assoc, List.cons_append, List.append_assoc, List.singleton_append]
      obtain ⟨g1, g2, g3, g4⟩ := num_small ⟨n.toNat, by omega⟩ (by simp only; omega)
      simp only at g1 g2 g3 g4
      obtain ⟨t1, t2⟩ := take_all (p := isD) (numText n.toNat) 58 (a.txt ++ 41 :: r) g1 (by decide)
      have hh : (numText n.toNat ++ 58 :: (a.txt ++ 41 :: r)).head? ≠ some 126 := by
        cases hq : numText n.toNat with
        | nil => exact absurd hq g4
        | cons c t => rw [hq] at g3; simpa using g3
      unfold readC
      rw [if_neg (by decide), if_neg (by decide), if_neg (by decide), if_neg hh, if_pos (by rw [t2]; rfl), t2, t1, g2]
      show (readC f (a.txt ++ 41 :: r)).bind _ = _
      rw [read_txt f a _ (by omega) ha, Option.bind_some]
      rw [show ((n.toNat : Nat) : Int) = n from by omega]
      rfl
theorem txt_inj {x y : Cr} (hx : x.form = true) (hy : y.form = true) (h : x.txt = y.txt) : x = y := by
  have h1 := read_txt (x.count + y.count) x [] (by omega) hx
  have h2 := read_txt (x.count + y.count) y [] (by omega) hy
  rw [h, h2] at h1
  injection h1 with h1
  injection h1 with h1
  exact h1.symm
end K
end Go.Proofs.YtlgpbgcheeaalaaGreatDoor
