/- The walk of law 5's TreeParts. -/
import Derived.Test.YtaanhijjhllckaaTreeAwake
namespace Go.Proofs.Ytaanhijjhllckaa
set_option maxRecDepth 100000
open Go.RowKit
theorem at_leaf_count {x : Nd} {gr : Int} (h : goodP x gr = true) {y : Nd} (hy : y ∈ x.nodes) :
    sizeOfN y = y.count ∧ depthOfN y = y.deep ∧ y.deep < x.deep ∧ accN (y.pre.take 100000) [] = y.sets ∧ y.sets.length ≤ x.sets.length := by
  obtain ⟨h1, h2⟩ := good_size h
  have h3 := count_mem hy
  have h4 := deep_mem hy
  have hs := (good_setless h).1
  have hk : x.kind ≠ 1 := fun hk => by rw [good_set h hk] at hy; cases hy
  have hys : y.setless = true := by
    cases x with
    | mk k s lo hi n l =>
      unfold Nd.setless at hs
      rw [if_neg (show ¬ k = 1 from hk)] at hs
      exact setless_mem hs (show y ∈ l from hy)
  refine ⟨by unfold sizeOfN; omega, by unfold depthOfN; omega, h4, ?_, sets_part hy hk⟩
  rw [List.take_of_length_le (by rw [Nd.pre_length]; omega), accN_pre y [] hys]
  rfl
theorem at_root_count {x : Nd} {gr : Int} (h : goodP x gr = true) : sizeOfN x = x.count ∧ depthOfN x = x.deep ∧ accN (x.pre.take 100000) [] = x.sets := by
  obtain ⟨h1, h2⟩ := good_size h
  refine ⟨by unfold sizeOfN; omega, by unfold depthOfN; omega, ?_⟩
  rw [List.take_of_length_le (by rw [Nd.pre_length]; omega), accN_pre x [] (good_setless h).1]
  rfl
/-- twelve cells lie at b -/
def Pat12 (w : World) (b : Nat) (cs : List Value) : Prop := cs.length = 12 ∧ ∀ q, q < 12 → w.cell? ⟨b, q, none⟩ = cs[q]?
theorem infoPat : (Try.prog.info? 29).map (·.size) = some 12 := by kernel_rfl
theorem loadPat {w : World} {b : Nat} {cs : List Value} (h : Pat12 w b cs) : (loadVar 29 ⟨b, 0, none⟩).run Try.prog w = .ok (.agg cs.toArray) w := by
  have hl := run_loadCells_list (P := Try.prog) w ⟨b, 0, none⟩ cs (fun j v hv => by
    have hj : j < 12 := by have := (List.getElem?_eq_some_iff.mp hv).1; rw [h.1] at this; exact this
    rw [addr_at, Nat.zero_add, h.2 j hj]; exact hv)
  have hi := infoPat
  rw [h.1] at hl
  cases hq : Try.prog.info? 29 with
  | none => simp [hq] at hi
  | some i =>
    have hs : i.size = 12 := by simpa [hq] using hi
    have hagg : (isAgg 29).run Try.prog w = .ok true w := by
      unfold isAgg
      rw [Sem.run_bind, run_underlying Try.underlying29 w]
      rfl
    simp [loadVar, Sem.run_bind, hagg, sizeOf, typeInfo, hq, hs, hl]
theorem quiet_load_pat {o : Oper} {a : Act} {C : World → Prop} {K : Act → Prop} (x : Operand) (ho : o.op = .load 29 x) (b : Nat) (cs : List Value) (hx : a.eval x = .pointer (some ⟨b, 0, none⟩))
    (h : ∀ w, C w → Pat12 w b cs) (hK : K (a.put o.dst (.agg cs.toArray))) : o.quiet Try.prog a C K :=
  ⟨.agg cs.toArray, fun w hw => by
    unfold Oper.quietAt execOp
    simp only [ho, hx, Instr.loadAt, Instr.sureAddr, Sem.run_bind, Sem.run_pure, Result.andThen_ok, loadPat (h w hw)]
    exact ⟨rfl, rfl⟩, hK⟩
theorem cells12 {w : World} {b : Nat} {cs : Array Value} {t : TypeId} (h : w.heap[b]? = some (.cells cs t)) (hs : cs.size = 12) : Pat12 w b cs.toList := ⟨by simpa using hs, fun q hq => by simp [World.cell?, h]⟩
theorem cells9at2 {w : World} {b : Nat} {cs : Array Value} {t : TypeId} (h : w.heap[b]? = some (.cells cs t)) (ds : List Value) (hd : ds.length = 9) (hs : ∀ q, q < 9 → cs[2 + q]? = ds[q]?) : Node9 w b 2 ds := ⟨hd, fun q hq => by rw [← hs q hq]; simp [World.cell?, h]⟩
theorem root_cells (x0 x1 : Value) (c0 c1 c2 c3 c4 c5 c6 c7 c8 y : Value) : ∀ q, q < 9 → (#[x0, x1, c0, c1, c2, c3, c4, c5, c6, c7, c8, y] : Array Value)[2 + q]? = [c0, c1, c2, c3, c4, c5, c6, c7, c8][q]? := by
  intro q hq
  have hq' : q = 0 ∨ q = 1 ∨ q = 2 ∨ q = 3 ∨ q = 4 ∨ q = 5 ∨ q = 6 ∨ q = 7 ∨ q = 8 := by omega
  rcases hq' with rfl | rfl | rfl | rfl | rfl | rfl | rfl | rfl | rfl <;> rfl
/-- a node of one node that lies in memory -/
theorem at_bracket {W : World} {b : Nat} {x : Nd} {cs : List Value} (hx : Nd.at W x cs) (hc : cs.length = 9) (h : W.heap[b]? = some (.cells cs.toArray 27)) :
    Nd.at W (.mk 6 0 0 0 0 [x]) [.int .i64 6, .int .u64 0, .int .u64 0, .int .u64 0, .int .u64 0, .int .i64 0, .int .i64 0, .int .i64 0, .slice (some ⟨b, 0, none⟩) 1 1] := by
  have hf : ∀ n : Int, n = 0 ∨ n = 6 → fits64 n := by rintro n (rfl | rfl) <;> rfl
  rw [at_mk]
  refine ⟨hf 6 (by simp), hf 0 (by simp), hf 0 (by simp), hf 0 (by simp), some ⟨b, 0, none⟩, 1, ?_, by simp [maxLen], .inr ⟨b, 0, rfl, Nat.le_refl _, (Array.getElem?_eq_some_iff.1 h).1, ?_⟩⟩
  · simp only [word_zero]; rfl
  · rw [nodesAt_cons, nodesAt_nil]
    exact ⟨⟨cs, hc, fun q hq => by simp [World.cell?, h], hx⟩, trivial⟩
end Go.Proofs.Ytaanhijjhllckaa
