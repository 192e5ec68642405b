/- The document's own formed: its loads. -/
import Derived.Test.YtaanhijjhllckaaRefForm
import Derived.Deep.CutBlock
import Derived.BigQuiet
import Derived.Deep.QuietTactic
import Derived.Test.YtaanhijjhllckaaTextWalk
import Derived.Test.YtaanhijjhllckaaRefSame5
namespace Go.Proofs.Ytaanhijjhllckaa
set_option maxRecDepth 100000
open Go.RowKit
theorem quiet_load_one {P : Program} {o : Oper} {a : Act} {C : World → Prop} {K : Act → Prop} {t : TypeId} (hagg : ∀ w, (isAgg t).run P w = .ok false w) (x : Operand) (ho : o.op = .load t x) (p : Addr) (v : Value) (hx : a.eval x = .pointer (some p)) (h : ∀ w, C w → w.cell? p = some v)
    (hK : K (a.put o.dst v)) : o.quiet P a C K :=
  ⟨v, fun w hw => by
    have hc := h w hw
    unfold Oper.quietAt execOp
    simp only [ho, hx, Instr.loadAt, Instr.sureAddr, Sem.run_bind, Sem.run_pure, Result.andThen_ok]
    simp [loadVar, hagg, hc]
    exact ⟨rfl, rfl⟩, hK⟩
theorem agg_int5 (w : World) : (isAgg 3).run Try.prog w = .ok false w := by simp [isAgg, run_underlying Try.underlying3]
theorem agg_nodes5 (w : World) : (isAgg 34).run Try.prog w = .ok false w := by simp [isAgg, run_underlying Try.underlying34]
end Go.Proofs.Ytaanhijjhllckaa
