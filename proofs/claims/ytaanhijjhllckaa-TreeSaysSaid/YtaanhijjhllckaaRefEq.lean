/- '==' on the document's own sets. -/
import Derived.Test.YtaanhijjhllckaaRefSmall
import Derived.Test.YtaanhijjhllckaaEq
namespace Go.Proofs.Ytaanhijjhllckaa
set_option maxRecDepth 100000
open Go.RowKit
theorem info_bool : (Try.prog.info? 4).map (fun i => (i.zero, i.size, i.bytes)) = some (some (.bool false), 1, 1) := by kernel_rfl
theorem agg_bool (w : World) : (isAgg 4).run Try.prog w = .ok false w := by kernel_rfl
theorem eql_ref (f g : Nat → Bool) (w : World) : (Op.equalIn 10000 33 (BV f) (BV g)).run Try.prog w = .ok ((List.range 256).all fun i => f i == g i) w := by
  obtain ⟨i0, hi, hz0, hz1, hz2⟩ := info_parts info_bool
  have hc : Try.prog.cellsOf 4 = 1 := by kernel_rfl
  rw [show (10000 : Nat) = 9999 + 1 from rfl, run_equalIn_array w 9999 _ _ Try.underlying33 hi, hc]
  exact run_eqItems (agg_bool w) (fun i => .bool (f i)) (fun i => .bool (g i)) (fun i => f i == g i) (List.range 256) (fun i hi => bc_get f i (List.mem_range.1 hi)) (fun i hi => bc_get g i (List.mem_range.1 hi)) (fun _ _ => run_equalIn_bool _ 9998 _ _ _ Try.underlying4)
end Go.Proofs.Ytaanhijjhllckaa
