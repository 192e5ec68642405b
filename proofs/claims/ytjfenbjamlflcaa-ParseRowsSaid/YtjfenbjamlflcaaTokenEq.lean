/- '==' on tokens; tokens in memory. -/
import Derived.Test.YtjfenbjamlflcaaTokenCut
import Derived.Test.YtjfenbjamlflcaaEq
import Derived.Laws.StructEq
namespace Go.Proofs.Ytjfenbjamlflcaa
set_option maxRecDepth 100000
open Go.RowKit
theorem part_set (x0 x1 x2 x3 x4 x5 x6 x7 : Value) (w : World) : (part 25 #[x0, x1, x2, x3, x4, x5, x6, x7] 1).run Try.prog w = .ok (.agg #[x1, x2, x3, x4]) w := by kernel_rfl
theorem agg_int (w : World) : (isAgg 3).run Try.prog w = .ok false w := by kernel_rfl
theorem eql_set_at (d : Nat) (s : BitVec 256) (w : World) : (Op.equalIn (d + 2) 25 (SV s) (SV s)).run Try.prog w = .ok true w := by
  obtain ⟨i0, hi, hz0, hz1, hz2⟩ := info_parts info_u64
  have hc : Try.prog.cellsOf 23 = 1 := by kernel_rfl
  rw [run_equalIn_array w (d + 1) _ _ Try.underlying25 hi, hc]
  have hr : List.range 4 = [0, 1, 2, 3] := rfl
  rw [hr, run_eqItems (agg_u64 w) (fun i => .int .u64 (word s i)) (fun i => .int .u64 (word s i)) (fun i => (word s i : Int) == (word s i : Int))]
  · congr 1; simp
  · intro i hi; simp at hi; rcases hi with rfl | rfl | rfl | rfl <;> rfl
  · intro i hi; simp at hi; rcases hi with rfl | rfl | rfl | rfl <;> rfl
  · intro i _; exact run_equalIn_int _ d _ _ _ _ _ Try.underlying23
theorem int_same (d : Nat) (a : Int) (w : World) : (Op.equalIn (d + 1) 3 (.int .i64 a) (.int .i64 a)).run Try.prog w = .ok true w := by
  rw [run_equalIn_int w d _ _ _ _ _ Try.underlying3]; simp
theorem eql_tok (t : Tok) (a : Int) (w : World) : (Op.equalIn 10000 95 (tokV t a) (tokV t a)).run Try.prog w = .ok true w := by
  rw [show (10000 : Nat) = 9999 + 1 from rfl, run_equalIn_struct w 9999 _ _ _ (by kernel_rfl) (by kernel_rfl)]
  have e3 := fun a => int_same 9998 a w
  have e32 := eql_set_at 9997 t.set w
  have p0 := run_part_cell (P := Try.prog) (e := 3) (xs := #[.int .i64 t.kind, .int .u64 (word t.set 0), .int .u64 (word t.set 1), .int .u64 (word t.set 2), .int .u64 (word t.set 3), .int .i64 t.lo, .int .i64 t.hi, .int .i64 a]) (i := 0) w (agg_int w) rfl
  have p5 := run_part_cell (P := Try.prog) (e := 3) (xs := #[.int .i64 t.kind, .int .u64 (word t.set 0), .int .u64 (word t.set 1), .int .u64 (word t.set 2), .int .u64 (word t.set 3), .int .i64 t.lo, .int .i64 t.hi, .int .i64 a]) (i := 5) w (agg_int w) rfl
  have p6 := run_part_cell (P := Try.prog) (e := 3) (xs := #[.int .i64 t.kind, .int .u64 (word t.set 0), .int .u64 (word t.set 1), .int .u64 (word t.set 2), .int .u64 (word t.set 3), .int .i64 t.lo, .int .i64 t.hi, .int .i64 a]) (i := 6) w (agg_int w) rfl
  have p7 := run_part_cell (P := Try.prog) (e := 3) (xs := #[.int .i64 t.kind, .int .u64 (word t.set 0), .int .u64 (word t.set 1), .int .u64 (word t.set 2), .int .u64 (word t.set 3), .int .i64 t.lo, .int .i64 t.hi, .int .i64 a]) (i := 7) w (agg_int w) rfl
  have p1 := part_set (.int .i64 t.kind) (.int .u64 (word t.set 0)) (.int .u64 (word t.set 1)) (.int .u64 (word t.set 2)) (.int .u64 (word t.set 3)) (.int .i64 t.lo) (.int .i64 t.hi) (.int .i64 a) w
  simp [Program.fieldsOf, Try.underlying95, Op.eqFields, p0, p1, p5, p6, p7, e3, e32]
/-- at b, off lies a token -/
def Tok8 (w : World) (b off : Nat) (t : Tok) (a : Int) : Prop :=
  ∀ (j : Nat) v, [Value.int .i64 t.kind, .int .u64 (word t.set 0), .int .u64 (word t.set 1), .int .u64 (word t.set 2), .int .u64 (word t.set 3), .int .i64 t.lo, .int .i64 t.hi, .int .i64 a][j]? = some v → w.cell? ⟨b, off + j, none⟩ = some v
theorem infoTok : (Try.prog.info? 95).map (·.size) = some 8 := by kernel_rfl
theorem loadTok {w : World} {b off : Nat} {t : Tok} {a : Int} (h : Tok8 w b off t a) : (loadVar 95 ⟨b, off, none⟩).run Try.prog w = .ok (tokV t a) w := by
  have hl := run_loadCells_list (P := Try.prog) w ⟨b, off, none⟩ [Value.int .i64 t.kind, .int .u64 (word t.set 0), .int .u64 (word t.set 1), .int .u64 (word t.set 2), .int .u64 (word t.set 3), .int .i64 t.lo, .int .i64 t.hi, .int .i64 a] (fun j v hv => by
    rw [addr_at]; exact h j v hv)
  have hi := infoTok
  cases hq : Try.prog.info? 95 with
  | none => simp [hq] at hi
  | some i =>
    have hs : i.size = 8 := by simpa [hq] using hi
    have hagg : (isAgg 95).run Try.prog w = .ok true w := by
      unfold isAgg
      rw [Sem.run_bind, run_underlying Try.underlying95 w]
      rfl
    simp only [List.length_cons, List.length_nil] at hl
    simp [loadVar, Sem.run_bind, hagg, sizeOf, typeInfo, hq, hs, hl]
theorem wpList_load_tok {ops : Array Oper} {rest : List Oper} {o : Oper} {a : Act} {w : World} {Q : Exit → Act → World → Prop} (hgd : o.guard = none) (x : Operand) (ho : o.op = .load 95 x)
    (b off : Nat) (t : Tok) (at_ : Int) (hx : a.eval x = .pointer (some ⟨b, off, none⟩)) (hc : Tok8 w b off t at_)
    (h : wpList Try.prog ops Q rest (a.put o.dst (tokV t at_)) w) : wpList Try.prog ops Q (o :: rest) a w :=
  wpList_plain hgd fun _ hK => by
    unfold Oper.wp execOp
    simp only [ho, hx, Instr.loadAt, Instr.sureAddr, Sem.run_bind, Sem.run_pure, Result.andThen_ok, loadTok hc]
    exact hK _ _ h
theorem quiet_load_tok {o : Oper} {a : Act} {C : World → Prop} {K : Act → Prop} (x : Operand) (ho : o.op = .load 95 x) (b off : Nat) (t : Tok) (at_ : Int) (hx : a.eval x = .pointer (some ⟨b, off, none⟩))
    (h : ∀ w, C w → Tok8 w b off t at_) (hK : K (a.put o.dst (tokV t at_))) : o.quiet Try.prog a C K :=
  ⟨tokV t at_, fun w hw => by
    unfold Oper.quietAt execOp
    simp only [ho, hx, Instr.loadAt, Instr.sureAddr, Sem.run_bind, Sem.run_pure, Result.andThen_ok, loadTok (h w hw)]
    exact ⟨rfl, rfl⟩, hK⟩
theorem Tok8.below {B : Nat} {w w' : World} {b off : Nat} {t : Tok} {a : Int} (h : Tok8 w b off t a) (hb : Below B w w') (hlt : b < B) : Tok8 w' b off t a :=
  fun q v hq => by rw [hb.cell (p := ⟨b, off + q, none⟩) hlt]; exact h q v hq
/-- a list of tokens that the call made -/
def ToksAt (w : World) (v : Value) (L : List (Tok × Nat)) : Prop :=
  ∃ a cap, v = .slice a L.length cap ∧ (L = [] ∨ ∃ g, a = some ⟨g, 0, none⟩ ∧ L.length ≤ cap ∧ g < w.heap.size ∧ ∀ j (hj : j < L.length), Tok8 w g (j * 8) (L[j]).1 ((L[j]).2 : Nat))
theorem tokCells_at (L : List (Tok × Nat)) (j : Nat) (hj : j < L.length) (q : Nat) (v : Value)
    (hv : [Value.int .i64 L[j].1.kind, .int .u64 (word L[j].1.set 0), .int .u64 (word L[j].1.set 1), .int .u64 (word L[j].1.set 2), .int .u64 (word L[j].1.set 3), .int .i64 L[j].1.lo, .int .i64 L[j].1.hi, .int .i64 (L[j].2 : Nat)][q]? = some v) : (tokCells L)[j * 8 + q]? = some v := by
  have hq : q < 8 := by
    have := (List.getElem?_eq_some_iff.mp hv).1
    simpa using this
  induction L generalizing j with
  | nil => simp at hj
  | cons p L ih =>
    have e : tokCells (p :: L) = [Value.int .i64 p.1.kind, .int .u64 (word p.1.set 0), .int .u64 (word p.1.set 1), .int .u64 (word p.1.set 2), .int .u64 (word p.1.set 3), .int .i64 p.1.lo, .int .i64 p.1.hi, .int .i64 (p.2 : Nat)] ++ tokCells L := rfl
    rw [e]
    cases j with
    | zero =>
      rw [Nat.zero_mul, Nat.zero_add, List.getElem?_append_left (by simpa using hq)]
      exact hv
    | succ j =>
      rw [List.getElem?_append_right (by simp; omega)]
      have := ih j (by simpa using hj) hv
      rw [show (j + 1) * 8 + q - _ = j * 8 + q from by simp; omega]
      exact this
theorem toksAt_of_owns {w : World} {base : Nat} {v : Value} {L : List (Tok × Nat)} (h : w.ownsRow base 95 8 v L.length (tokCells L)) : ToksAt w v L := by
  obtain ⟨a, cap, rfl⟩ := owns_form h
  have hrow := h.2
  rcases hrow with ⟨h1, h0⟩ | ⟨g, c, cur, hv, hg, hblk, hnc, hcm, _⟩
  · refine ⟨_, _, by injection h1 with e1 e2 e3; rfl, .inl (List.length_eq_zero_iff.mp h0)⟩
  · cases hv
    refine ⟨_, _, rfl, .inr ⟨g, rfl, hnc, lt_of_block hblk, fun j hj q v hq => ?_⟩⟩
    have hq8 : q < 8 := by
      have := (List.getElem?_eq_some_iff.mp hq).1
      simpa using this
    rw [h.cellAt _ (by omega)]
    exact tokCells_at L j hj q v hq
theorem ToksAt.below {B : Nat} {w w' : World} {v : Value} {L : List (Tok × Nat)} (h : ToksAt w v L) (hb : Below B w w') (hB : B = w.heap.size) : ToksAt w' v L := by
  obtain ⟨a, cap, e, h⟩ := h
  refine ⟨a, cap, e, ?_⟩
  rcases h with h | ⟨g, e1, e2, e3, e4⟩
  · exact .inl h
  · exact .inr ⟨g, e1, e2, Nat.lt_of_lt_of_le e3 hb.size, fun j hj => (e4 j hj).below hb (by omega)⟩
/-- Cut at a text that is one: its tokens -/
theorem cut_good (s : ByteArray) (hs : s.size ≤ 1024) (L : List (Tok × Nat)) (hc : cutAll cls (nats s) = (none, L)) (w : World) (hm : MaxAt w) :
    Calls Try.prog 38 #[.string s] w fun e w' => ∃ v, e = .returned (.tuple #[v, .int .i64 s.size, .int .i64 0]) ∧ ToksAt w' v L ∧ Below w.heap.size w w' := by
  have := cut_walk s hs w hm
  rw [hc] at this
  exact this.mono fun e w' ⟨v, h1, h2, h3⟩ => ⟨v, h1, toksAt_of_owns h2, h3⟩
/-- Cut at a text that is none: where, and why -/
theorem cut_refused (s : ByteArray) (hs : s.size ≤ 1024) (p : Nat × Nat) (L : List (Tok × Nat)) (hc : cutAll cls (nats s) = (some p, L)) (w : World) (hm : MaxAt w) :
    Calls Try.prog 38 #[.string s] w fun e w' => e = .returned (.tuple #[.slice none 0 0, .int .i64 (p.1 : Nat), .int .i64 (p.2 : Nat)]) ∧ Below w.heap.size w w' := by
  have := cut_walk s hs w hm
  rw [hc] at this
  exact this
end Go.Proofs.Ytjfenbjamlflcaa
