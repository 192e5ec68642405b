/- Steps of drawn regions: a string cut, a part of a tuple, in any world. -/
import Derived.Test.YtblgjcolmaidlaaHold
import Derived.Test.YtblgjcolmaidlaaText
import Derived.Laws.Strings3
namespace Go.Proofs.Ytblgjcolmaidlaa
set_option maxRecDepth 100000
open Go.RowKit
theorem quiet_slice_str {o : Oper} {a : Act} {C : World → Prop} {K : Act → Prop} (x y : Operand) (ho : o.op = .slice 9 x none (some y) none) (t : ByteArray) (k : Nat) (hx : a.eval x = .string t) (hy : a.eval y = .int .i64 k) (h : k ≤ t.size)
    (hK : K (a.put o.dst (.string (t.extract 0 k)))) : o.quiet Try.prog a C K :=
  ⟨.string (t.extract 0 k), fun w _ => by
    have h1 : (0 : Int) ≤ (k : Int) ∧ (k : Int) ≤ (t.size : Int) := ⟨by omega, by omega⟩
    unfold Oper.quietAt execOp
    simp only [ho, hx, hy, Option.map_none, Option.map_some, Sem.run_bind, Sem.run_pure, Result.andThen_ok, Instr.sliceAt, run_underlying Try.underlying9]
    simp [run_slice_string_to_if w 9 t .i64 k Try.underlying9, h1]
    exact ⟨rfl, rfl⟩, hK⟩
theorem quiet_slice_bytes {o : Oper} {a : Act} {C : World → Prop} {K : Act → Prop} (x y : Operand) (ho : o.op = .slice 44 x none (some y) none) (p : Option Addr) (n c k : Nat) (hx : a.eval x = .slice p n c) (hy : a.eval y = .int .i64 k) (h : k ≤ c)
    (hK : K (a.put o.dst (.slice p k c))) : o.quiet Try.prog a C K :=
  ⟨.slice p k c, fun w _ => by
    obtain ⟨i0, hi, hz0, hz1, hz2⟩ := info_parts info_u8
    have hp : p.map (fun q => q.add 0) = p := by
      cases p with
      | none => rfl
      | some q => simp [Addr.add]
    unfold Oper.quietAt execOp
    simp only [ho, hx, hy, Option.map_none, Option.map_some, Sem.run_bind, Sem.run_pure, Result.andThen_ok, Instr.sliceAt, run_underlying Try.underlying44]
    simp [Instr.slice, Instr.sliceBounds, Instr.sliceBound, asIntOf, run_underlying Try.underlying44, h, sizeOf, typeInfo, hi, hp]
    exact ⟨rfl, rfl⟩, hK⟩
theorem quiet_load_str {o : Oper} {a : Act} {C : World → Prop} {K : Act → Prop} (x : Operand) (ho : o.op = .load 9 x) (p : Addr) (t : ByteArray) (hx : a.eval x = .pointer (some p)) (h : ∀ w, C w → w.cell? p = some (.string t))
    (hK : K (a.put o.dst (.string t))) : o.quiet Try.prog a C K :=
  ⟨.string t, fun w hw => by
    have hc := h w hw
    unfold Oper.quietAt execOp
    simp only [ho, hx, Instr.loadAt, Instr.sureAddr, Sem.run_bind, Sem.run_pure, Result.andThen_ok]
    simp [loadVar, isAgg, run_underlying Try.underlying9, hc]
    exact ⟨rfl, rfl⟩, hK⟩
theorem quiet_conv {o : Oper} {a : Act} {C : World → Prop} {K : Act → Prop} {t u : TypeId} (x : Operand) (ho : o.op = .convert t u x) (v r : Value) (hx : a.eval x = v) (h : ∀ w, C w → (convert t u v).run Try.prog w = .ok r w)
    (hK : K (a.put o.dst r)) : o.quiet Try.prog a C K :=
  ⟨r, fun w hw => by
    unfold Oper.quietAt execOp
    simp only [ho, hx, Sem.run_bind, Sem.run_pure, Result.andThen_ok, h w hw]
    exact ⟨rfl, rfl⟩, hK⟩
theorem quiet_extract {o : Oper} {a : Act} {C : World → Prop} {K : Act → Prop} (x : Operand) (i : Nat) (ho : o.op = .extract x i) (vs : Array Value) (v : Value) (hx : a.eval x = .tuple vs) (hv : vs[i]? = some v)
    (hK : K (a.put o.dst v)) : o.quiet Try.prog a C K :=
  ⟨v, fun w _ => by
    unfold Oper.quietAt execOp
    simp [ho, hx, hv, Instr.extract]
    exact ⟨rfl, rfl⟩, hK⟩
end Go.Proofs.Ytblgjcolmaidlaa
