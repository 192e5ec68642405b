/- lang's machine and its crowds, as they lie in memory; what leaves all but blocks of some types alone. -/
import Derived.Test.YtobhjfhmhhahoaaLangMach
import Derived.Test.YtobhjfhmhhahoaaCoreKit
import Derived.Laws.MakeOwn
namespace Go.Proofs.Ytobhjfhmhhahoaa
namespace K
set_option maxRecDepth 100000
open Go.RowKit

/-- below block B all is as before; above, all that is of no type of T -/
structure Fr (T : List TypeId) (B : Nat) (w w' : World) : Prop where
  below : Below B w w'
  keep : ∀ (k : Nat) (cs : Array Value) (t : TypeId) (f : Nat × Nat), w.heap[k]? = some (.cells cs t f) → t ∉ T → w'.heap[k]? = some (.cells cs t f)
theorem Fr.refl (T : List TypeId) (B : Nat) (w : World) : Fr T B w w := ⟨Below.refl _ _, fun _ _ _ _ h _ => h⟩
theorem Fr.trans {T : List TypeId} {B : Nat} {a b c : World} (h : Fr T B a b) (k : Fr T B b c) : Fr T B a c :=
  ⟨h.below.trans k.below, fun i cs t f hi ht => k.keep i cs t f (h.keep i cs t f hi ht) ht⟩
theorem Fr.mono {T : List TypeId} {B B' : Nat} {w w' : World} (h : Fr T B w w') (hB : B' ≤ B) : Fr T B' w w' := ⟨h.below.mono hB, h.keep⟩
theorem Fr.of_below {T : List TypeId} {B : Nat} {w w' : World} (h : Below w.heap.size w w') (hB : B ≤ w.heap.size) : Fr T B w w' :=
  ⟨h.mono hB, fun k _ _ _ hk _ => (h.block k (lt_of_block hk)).trans hk⟩
theorem Fr.alloc {T : List TypeId} {B : Nat} {a w : World} (h : Fr T B a w) (hB : B ≤ w.heap.size) (o : Obj) : Fr T B a (w.alloc o) := h.trans (.of_below ((Below.refl _ _).alloc (Nat.le_refl _) o) hB)
theorem Fr.setCell {T : List TypeId} {B : Nat} {a w : World} (h : Fr T B a w) {p : Addr} (hp : B ≤ p.block) {cs : Array Value} {t : TypeId} {f : Nat × Nat} (hc : w.heap[p.block]? = some (.cells cs t f)) (ht : t ∈ T) (u : Value) : Fr T B a (w.setCell p u) :=
  h.trans ⟨(Below.refl _ _).setCell hp u, fun k cs' t' f' hk ht' => by
    rw [Below.heap_setCell _ _ _ _ (fun e => by subst e; rw [hc] at hk; injection hk with hk; injection hk with _ e; subst e; exact ht' ht)]
    exact hk⟩
theorem Fr.grown {T : List TypeId} {B : Nat} {a w w' : World} {e : TypeId} {size : Nat} {v : Value} {n : Nat} {xs : List Value} (h : Fr T B a w) (hB : B ≤ w.heap.size) (ho : w.ownsRow B e size v n xs) (hg : w.grownBy w' v.ownBlock) (ht : e ∈ T) : Fr T B a w' :=
  h.trans ⟨(Below.refl _ _).grown hg hB (fun k hk => (ho.lt k hk).1), fun k cs' t' f' hk ht' => by
    rw [hg.block k (lt_of_block hk) (fun e' => ?_)]
    · exact hk
    · rcases ho.2 with ⟨hv, _⟩ | ⟨g, cap, cur, hv, _, hblk, _⟩
      · subst hv; cases e'
      · subst hv
        injection e' with e'
        subst e'
        rw [hblk] at hk
        injection hk with hk
        injection hk with _ e2
        subst e2
        exact ht' ht⟩
/-- what a call owns stays owned where its own block's type is kept, or the block lies below -/
theorem Fr.row {T : List TypeId} {B b : Nat} {w w' : World} {e : TypeId} {size : Nat} {v : Value} {n : Nat} {xs : List Value} (h : Fr T B w w') (ho : w.ownsRow b e size v n xs) (ht : e ∉ T) : w'.ownsRow b e size v n xs := by
  obtain ⟨h1, h2 | ⟨g, cap, cur, hv, hg, hblk, hr⟩⟩ := ho
  · exact ⟨h1, .inl h2⟩
  · exact ⟨h1, .inr ⟨g, cap, cur, hv, hg, h.keep _ _ _ _ hblk ht, hr⟩⟩

/-! a machine -/
def stVals (t : St) : List Value := [.bool t.fork, .int .u64 (word t.set 0), .int .u64 (word t.set 1), .int .u64 (word t.set 2), .int .u64 (word t.set 3), .int .i64 t.next, .int .i64 t.other]
def stRow (S : List St) : List Value := S.flatMap stVals
theorem stRow_len (S : List St) : (stRow S).length = S.length * 7 := by
  induction S with
  | nil => rfl
  | cons t S ih => unfold stRow at *; rw [List.flatMap_cons, List.length_append, ih]; simp [stVals]; omega
theorem stRow_snoc (S : List St) (t : St) : stRow (S ++ [t]) = stRow S ++ stVals t := by simp [stRow]
theorem stRow_get : ∀ (S : List St) (i q : Nat), q < 7 → (stRow S)[i * 7 + q]? = (S[i]?).bind fun t => (stVals t)[q]?
  | [], i, q, _ => by simp [stRow]
  | t :: S, i, q, hq => by
    have e : stRow (t :: S) = stVals t ++ stRow S := by simp [stRow]
    rw [e]
    cases i with
    | zero =>
      rw [List.getElem?_append_left (by simp [stVals]; omega)]
      simp
    | succ i =>
      rw [List.getElem?_append_right (by simp [stVals]; omega)]
      have e2 : (i + 1) * 7 + q - (stVals t).length = i * 7 + q := by simp [stVals]; omega
      rw [e2, stRow_get S i q hq]
      simp
def MachAt (B : Nat) (w : World) (m : Nat) (S : List St) (q : Nat) : Prop :=
  B ≤ m ∧ ∃ v, w.heap[m]? = some (.cells #[v, .int .i64 q] 57) ∧ w.ownsRow B 54 7 v S.length (stRow S)
theorem MachAt.fr {T : List TypeId} {B B' : Nat} {w w' : World} {m : Nat} {S : List St} {q : Nat} (h : MachAt B w m S q) (hf : Fr T B' w w') (h1 : 57 ∉ T) (h2 : 54 ∉ T) : MachAt B w' m S q := by
  obtain ⟨hB, v, hv, ho⟩ := h
  exact ⟨hB, v, hf.keep _ _ _ _ hv h1, hf.row ho h2⟩
theorem MachAt.below {B : Nat} {w w' : World} {m : Nat} {S : List St} {q : Nat} (h : MachAt B w m S q) (hf : Below w.heap.size w w') : MachAt B w' m S q :=
  h.fr (Fr.of_below (T := []) hf (Nat.le_refl _)) (by simp) (by simp)
theorem MachAt.lt {B : Nat} {w : World} {m : Nat} {S : List St} {q : Nat} (h : MachAt B w m S q) : m < w.heap.size := by
  obtain ⟨_, v, hv, _⟩ := h
  exact lt_of_block hv
theorem MachAt.mono {B B' : Nat} {w : World} {m : Nat} {S : List St} {q : Nat} (h : MachAt B w m S q) (hB : B' ≤ B) : MachAt B' w m S q := by
  obtain ⟨h1, v, hv, ho⟩ := h
  exact ⟨by omega, v, hv, owns_mono ho hB⟩
/-- a machine with states, opened -/
theorem MachAt.open {B : Nat} {w : World} {m : Nat} {S : List St} {q : Nat} (h : MachAt B w m S q) (h0 : 0 < S.length) : ∃ sb cap, w.cell? ⟨m, 0, none⟩ = some (.slice (some ⟨sb, 0, none⟩) S.length cap) ∧ w.cell? ⟨m, 1, none⟩ = some (.int .i64 q) ∧ (∀ o, w.frozen? ⟨m, o, none⟩ = false) ∧ S.length ≤ cap ∧ cap ≤ maxLen ∧ sb < w.heap.size ∧
    (∀ (i : Nat) (t : St), S[i]? = some t → ∀ j, j < 7 → w.cell? ⟨sb, i * 7 + j, none⟩ = (stVals t)[j]?) ∧ (∀ o, w.frozen? ⟨sb, o, none⟩ = false) ∧ sb ≠ m := by
  obtain ⟨hB, v, hv, ho⟩ := h
  rcases ho.2 with ⟨_, h1⟩ | ⟨g, cap, cur, rfl, hb, hg, hc, hm, hs, htake⟩
  · omega
  · refine ⟨g, cap, by rw [cells_at hv]; rfl, by rw [cells_at hv]; rfl, fun o => by simp [World.frozen?, hv], hc, hm, lt_of_block hg, fun i t hi j hj => ?_, fun o => by simp [World.frozen?, hg], fun e => ?_⟩
    · have hlt : i < S.length := (List.getElem?_eq_some_iff.1 hi).1
      have h3 := stRow_get S i j hj
      rw [hi, Option.bind_some] at h3
      rw [← h3, cells_at hg, ← htake, List.getElem?_take, if_pos (by omega), Array.getElem?_toList]
    · subst e; rw [hv] at hg; injection hg with hg; injection hg with _ e; exact absurd e (by decide)

/-! a crowd -/
def natsV (l : List Nat) : List Value := l.map fun n : Nat => .int .i64 (n : Int)
def boolsV (I : List Bool) : List Value := I.map .bool
/-- its two cells, and what hangs on them -/
def CrowdV (B : Nat) (w : World) (vl vi : Value) (d : List Nat × List Bool) : Prop :=
  w.ownsRow B 3 1 vl d.1.length (natsV d.1) ∧ w.ownsRow B 4 1 vi d.2.length (boolsV d.2)
def CrowdAt (B : Nat) (w : World) (c : Nat) (d : List Nat × List Bool) : Prop :=
  B ≤ c ∧ ∃ vl vi, w.heap[c]? = some (.cells #[vl, vi] 61) ∧ CrowdV B w vl vi d
theorem CrowdV.below {B : Nat} {w w' : World} {vl vi : Value} {d : List Nat × List Bool} (h : CrowdV B w vl vi d) (hf : Below w.heap.size w w') : CrowdV B w' vl vi d := ⟨owns_below h.1 hf, owns_below h.2 hf⟩
theorem CrowdAt.below {B : Nat} {w w' : World} {c : Nat} {d : List Nat × List Bool} (h : CrowdAt B w c d) (hf : Below w.heap.size w w') : CrowdAt B w' c d := by
  obtain ⟨h1, vl, vi, h2, h3⟩ := h
  exact ⟨h1, vl, vi, (hf.block c (lt_of_block h2)).trans h2, h3.below hf⟩
theorem CrowdAt.lt {B : Nat} {w : World} {c : Nat} {d : List Nat × List Bool} (h : CrowdAt B w c d) : c < w.heap.size := by
  obtain ⟨_, vl, vi, hv, _⟩ := h
  exact lt_of_block hv
/-- a list of marks in memory, opened -/
theorem marks_open {B : Nat} {w : World} {vi : Value} {I : List Bool} (h : w.ownsRow B 4 1 vi I.length (boolsV I)) (h0 : 0 < I.length) : ∃ ib cap, vi = .slice (some ⟨ib, 0, none⟩) I.length cap ∧ B ≤ ib ∧ ib < w.heap.size ∧ I.length ≤ cap ∧ cap ≤ maxLen ∧
    (∀ (p : Nat) (b : Bool), I[p]? = some b → w.cell? ⟨ib, p, none⟩ = some (.bool b)) ∧ (∀ o, w.frozen? ⟨ib, o, none⟩ = false) ∧ ∃ cs, w.heap[ib]? = some (.cells cs 4) := by
  rcases h.2 with ⟨_, h1⟩ | ⟨g, cap, cur, rfl, hb, hg, hc, hm, hs, htake⟩
  · omega
  · refine ⟨g, cap, rfl, hb, lt_of_block hg, hc, hm, fun p b hp => ?_, fun o => by simp [World.frozen?, hg], cur, hg⟩
    have hlt : p < I.length := (List.getElem?_eq_some_iff.1 hp).1
    have h3 : (boolsV I)[p]? = some (.bool b) := by simp [boolsV, hp]
    rw [cells_at hg, ← h3, ← htake, List.getElem?_take, if_pos (by omega), Array.getElem?_toList]
theorem marks_set {B : Nat} {w : World} {n ib cap : Nat} {I : List Bool} (h : w.ownsRow B 4 1 (.slice (some ⟨ib, 0, none⟩) n cap) I.length (boolsV I)) (p : Nat) (b : Bool) :
    (w.setCell ⟨ib, p, none⟩ (.bool b)).ownsRow B 4 1 (.slice (some ⟨ib, 0, none⟩) n cap) (I.set p b).length (boolsV (I.set p b)) := by
  rcases h.2 with ⟨h1, _⟩ | ⟨g, cap, cur, hv, hb, hg, hc, hm, hs, htake⟩
  · cases h1
  · cases hv
    refine ⟨by simp [boolsV], .inr ⟨ib, _, cur.set! p (.bool b), by rw [List.length_set], hb, ?_, by rw [List.length_set]; exact hc, hm, by simp [hs], ?_⟩⟩
    · simp [World.setCell, Array.getElem?_modify, hg]
    · rw [List.length_set]
      have e : boolsV (I.set p b) = (boolsV I).set p (.bool b) := by simp [boolsV, List.map_set]
      rw [e, ← htake]
      simp [List.take_set]
/-- a list of numbers in memory, opened -/
theorem nats_open {B : Nat} {w : World} {vl : Value} {l : List Nat} (h : w.ownsRow B 3 1 vl l.length (natsV l)) : ∃ a cap, vl = .slice a l.length cap ∧ l.length ≤ maxLen ∧ (l.length = 0 ∨ ∃ g, a = some ⟨g, 0, none⟩ ∧ l.length ≤ cap ∧ g < w.heap.size ∧ B ≤ g ∧ ∀ (j n : Nat), l[j]? = some n → w.cell? ⟨g, j, none⟩ = some (.int .i64 (n : Int))) := by
  rcases h.2 with ⟨h1, h2⟩ | ⟨g, cap, cur, rfl, hb, hg, hc, hm, hs, htake⟩
  · exact ⟨none, 0, by rw [h2]; exact h1, by rw [h2]; decide, .inl h2⟩
  · refine ⟨some ⟨g, 0, none⟩, cap, rfl, by omega, .inr ⟨g, rfl, hc, lt_of_block hg, hb, fun j n hj => ?_⟩⟩
    have hlt : j < l.length := (List.getElem?_eq_some_iff.1 hj).1
    have h3 : (natsV l)[j]? = some (.int .i64 (n : Int)) := by simp [natsV, hj]
    rw [cells_at hg, ← h3, ← htake, List.getElem?_take, if_pos (by omega), Array.getElem?_toList]
theorem owns_other {B : Nat} {w : World} {e : TypeId} {size : Nat} {v : Value} {n : Nat} {xs : List Value} (h : w.ownsRow B e size v n xs) {p : Addr} {cs : Array Value} {t : TypeId} {f : Nat × Nat} (hp : w.heap[p.block]? = some (.cells cs t f)) (ht : t ≠ e) (u : Value) : (w.setCell p u).ownsRow B e size v n xs := by
  obtain ⟨h1, h2 | ⟨g, cap, cur, hv, hg, hblk, hr⟩⟩ := h
  · exact ⟨h1, .inl h2⟩
  · refine ⟨h1, .inr ⟨g, cap, cur, hv, hg, ?_, hr⟩⟩
    rw [Below.heap_setCell _ _ _ _ (fun e' => by subst e'; rw [hp] at hblk; injection hblk with hblk; injection hblk with _ e'; exact ht e')]
    exact hblk
theorem owns_kept {B : Nat} {w w' : World} {e e' : TypeId} {size size' : Nat} {v v' : Value} {n n' : Nat} {xs xs' : List Value} (h : w.ownsRow B e size v n xs) (ho : w.ownsRow B e' size' v' n' xs') (hg : w.grownBy w' v'.ownBlock) (ht : e' ≠ e) : w'.ownsRow B e size v n xs := by
  obtain ⟨h1, h2 | ⟨g, cap, cur, hv, hgB, hblk, hr⟩⟩ := h
  · exact ⟨h1, .inl h2⟩
  · refine ⟨h1, .inr ⟨g, cap, cur, hv, hgB, ?_, hr⟩⟩
    rw [hg.block g (lt_of_block hblk) (fun e1 => ?_)]
    · exact hblk
    · rcases ho.2 with ⟨hv', _⟩ | ⟨g', cap', cur', hv', _, hblk', _⟩
      · subst hv'; cases e1
      · subst hv'
        injection e1 with e1
        simp only at e1
        subst e1
        rw [hblk] at hblk'
        injection hblk' with e2
        injection e2 with _ e2
        exact ht e2.symm
theorem block_kept {B : Nat} {w w' : World} {e' : TypeId} {size' : Nat} {v' : Value} {n' : Nat} {xs' : List Value} {k : Nat} {cs : Array Value} {t : TypeId} {f : Nat × Nat} (hk : w.heap[k]? = some (.cells cs t f)) (ho : w.ownsRow B e' size' v' n' xs') (hg : w.grownBy w' v'.ownBlock) (ht : e' ≠ t) : w'.heap[k]? = some (.cells cs t f) := by
  rw [hg.block k (lt_of_block hk) (fun e1 => ?_)]
  · exact hk
  · rcases ho.2 with ⟨hv', _⟩ | ⟨g', cap', cur', hv', _, hblk', _⟩
    · subst hv'; cases e1
    · subst hv'
      injection e1 with e1
      simp only at e1
      subst e1
      rw [hk] at hblk'
      injection hblk' with e2
      injection e2 with _ e2
      exact ht e2.symm
/-! states loaded and appended -/
def State7 (w : World) (b off : Nat) (cs : List Value) : Prop := cs.length = 7 ∧ ∀ q, q < 7 → w.cell? ⟨b, off + q, none⟩ = cs[q]?
theorem infoState : (Try.prog.info? 54).map (·.size) = some 7 := by kernel_rfl
abbrev zeroState : Value := .agg #[.bool false, .int .u64 0, .int .u64 0, .int .u64 0, .int .u64 0, .int .i64 0, .int .i64 0]
theorem info_state : (Try.prog.info? 54).map (fun i => (i.zero, i.size, i.bytes)) = some (some zeroState, 7, 56) := by kernel_rfl
theorem loadState {w : World} {b off : Nat} {cs : List Value} (h : State7 w b off cs) : (loadVar 54 ⟨b, off, none⟩).run Try.prog w = .ok (.agg cs.toArray) w := by
  have hl := run_loadCells_list (P := Try.prog) w ⟨b, off, none⟩ cs (fun j v hv => by
    have hj : j < 7 := by have := (List.getElem?_eq_some_iff.mp hv).1; rw [h.1] at this; exact this
    rw [addr_at, h.2 j hj]; exact hv)
  have hi := infoState
  rw [h.1] at hl
  cases hq : Try.prog.info? 54 with
  | none => simp [hq] at hi
  | some i =>
    have hs : i.size = 7 := by simpa [hq] using hi
    have hagg : (isAgg 54).run Try.prog w = .ok true w := by
      unfold isAgg
      rw [Sem.run_bind, run_underlying Try.underlying54 w]
      rfl
    simp [loadVar, Sem.run_bind, hagg, sizeOf, typeInfo, hq, hs, hl]
theorem wpList_load_state {ops : Array Oper} {rest : List Oper} {o : Oper} {a : Act} {w : World} {Q : Exit → Act → World → Prop} (hgd : o.guard = none) (x : Operand) (ho : o.op = .load 54 x)
    (b off : Nat) (cs : List Value) (hx : a.eval x = .pointer (some ⟨b, off, none⟩)) (hc : State7 w b off cs)
    (h : wpList Try.prog ops Q rest (a.put o.dst (.agg cs.toArray)) w) : wpList Try.prog ops Q (o :: rest) a w :=
  wpList_plain hgd fun _ hK => by
    unfold Oper.wp execOp
    simp only [ho, hx, Instr.loadAt, Instr.sureAddr, Sem.run_bind, Sem.run_pure, Result.andThen_ok, loadState hc]
    exact hK _ _ h
theorem info_intn : (Try.prog.info? 3).map (fun i => (i.zero, i.size, i.bytes)) = some (some (.int .i64 0), 1, 8) := by kernel_rfl
theorem wpList_append_nat {ops : Array Oper} {rest : List Oper} {o : Oper} {a : Act} {w : World} {Q : Exit → Act → World → Prop} (hgd : o.guard = none) (s x : Operand)
    (ho : o.op = .call { callee := .builtin .append, args := #[s, x], argTypes := #[33, 33] }) (base : Nat) (v : Value) (n : Nat) (xs : List Value) (hs : a.eval s = v)
    (hown : w.ownsRow base 3 1 v n xs) (b : Nat) (z : Int) (hx : a.eval x = .slice (some ⟨b, 0, none⟩) 1 1) (hc : w.cell? ⟨b, 0, none⟩ = some (.int .i64 z)) (hn : n < 1000000000000) (hbase : base ≤ w.heap.size)
    (h : ∀ v' w', w'.ownsRow base 3 1 v' (n + 1) (xs ++ [.int .i64 z]) → w.grownBy w' v.ownBlock → wpList Try.prog ops Q rest (a.put o.dst v') w') : wpList Try.prog ops Q (o :: rest) a w := by
  obtain ⟨i0, hi, hz0, hz1, hz2⟩ := info_parts info_intn
  refine wpList_append_own w hgd s x _ ho base 3 i0 (.int .i64 0) 1 8 Try.underlying33 hi hz0 hz1 hz2 rfl (by decide) v n xs hs hown ⟨b, 0, none⟩ 1 1 [.int .i64 z] hx rfl ?_ (fun u hu => by rw [List.mem_singleton] at hu; subst hu; rfl) (by unfold maxLen; omega) (by omega) hbase ?_
  · intro j u hj
    cases j with
    | zero => injection hj with e; subst e; rw [addr_at]; exact hc
    | succ j => simp at hj
  · intro v' w' g1 g2 _
    exact h v' w' g1 g2
end K
end Go.Proofs.Ytobhjfhmhhahoaa
