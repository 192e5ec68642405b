/- The document's own sets in walks: a quiet load, a new array. -/
import Derived.Test.YtnhlopbpggdneaaDoorRefArr
import Derived.Test.YtnhlopbpggdneaaDoorLater
namespace Go.Proofs.YtnhlopbpggdneaaDoor
open Go.RowKit

abbrev ZR : Obj := .cells (bc bNone) 38
theorem quiet_load_ref {o : Oper} {a : Act} {C : World → Prop} {K : Act → Prop} (x : Operand) (ho : o.op = .load 38 x) (g : Nat) (hx : a.eval x = .pointer (some ⟨g, 0, none⟩)) (f : Nat → Bool)
    (h : ∀ w, C w → BAt w g f) (hK : K (a.put o.dst (BV f))) : o.quiet Tryd.prog a C K :=
  ⟨BV f, fun w hw => by
    unfold Oper.quietAt execOp
    simp only [ho, hx, Instr.loadAt, Instr.sureAddr, Sem.run_bind, Sem.run_pure, Result.andThen_ok, loadRef (h w hw)]
    exact ⟨rfl, rfl⟩, hK⟩
theorem store_new {w : World} {F : Nat → Bool} {ops : Array Oper} {rest : List Oper} {Q : Exit → Act → World → Prop} {o : Oper} {a : Act} {x y : Operand} (wX : World) (hX : wX = (w.alloc ZR).setRow w.heap.size (bc F)) (h1 : o.guard = none) (h2 : o.op = .store 38 x y)
    (h3 : a.eval x = .pointer (some ⟨w.heap.size, 0, none⟩)) (h4 : a.eval y = .agg (bc F)) (h5 : wpList Tryd.prog ops Q rest (a.put o.dst undef) wX) : wpList Tryd.prog ops Q (o :: rest) a (w.alloc ZR) := by
  subst hX
  exact wpList_store_row h1 _ _ _ h2 w.heap.size _ h3 h4 _ _ (BAt.start w ZR _ rfl _ rfl) (infoRef' _) (by rw [bc_size, bc_size]) (bc_one _) h5
theorem new_facts {w : World} {F : Nat → Bool} (wX : World) (hX : wX = (w.alloc ZR).setRow w.heap.size (bc F)) : BAt wX w.heap.size F ∧ Below w.heap.size w wX ∧ wX.heap.size = w.heap.size + 1 := by
  subst hX
  exact ⟨BAt.rowSame (BAt.start w ZR _ rfl _ rfl), below_row ((Below.refl _ _).alloc (Nat.le_refl _) _) (Nat.le_refl _) _, by simp⟩
end Go.Proofs.YtnhlopbpggdneaaDoor
