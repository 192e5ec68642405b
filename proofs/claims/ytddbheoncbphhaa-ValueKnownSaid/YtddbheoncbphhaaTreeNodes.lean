/- tree.nodes: the nodes of a node as a sequence; tree.Size, walked. -/
import Derived.Test.YtddbheoncbphhaaTreeVisit
namespace Go.Proofs.Ytddbheoncbphhaa
set_option maxRecDepth 100000
open Go.RowKit Go.Shelf

attribute [local go_sem] Oper.semAt_some

/-- a variable in a block of its own -/
def Var (W : World) (b : Nat) (v : Value) (t : TypeId) : Prop := W.heap[b]? = some (.cells #[v] t)
theorem Var.cell {W : World} {b : Nat} {v : Value} {t : TypeId} (h : Var W b v t) : W.cell? ⟨b, 0, none⟩ = some v ∧ W.frozen? ⟨b, 0, none⟩ = false := by
  unfold Var at h
  constructor <;> simp [World.cell?, World.frozen?, h]
theorem Var.lt {W : World} {b : Nat} {v : Value} {t : TypeId} (h : Var W b v t) : b < W.heap.size := (Array.getElem?_eq_some_iff.1 h).1
theorem Var.set {W : World} {b : Nat} {v : Value} {t : TypeId} (h : Var W b v t) (u : Value) : Var (W.setCell ⟨b, 0, none⟩ u) b u t := by
  unfold Var at h ⊢
  obtain ⟨hlt, hk⟩ := Array.getElem?_eq_some_iff.1 h
  show (W.heap.modify b _)[b]? = _
  rw [Array.getElem?_eq_getElem (by rw [Array.size_modify]; exact hlt), Array.getElem_modify_self, hk]
  simp
theorem Var.new (W : World) (v : Value) (t : TypeId) : Var (W.alloc (.cells #[v] t)) W.heap.size v t := World.alloc_heap_new W _
theorem Var.alloc {W : World} {b : Nat} {v : Value} {t : TypeId} (h : Var W b v t) (o : Obj) : Var (W.alloc o) b v t := (Below.heap_alloc W o b h.lt).trans h
theorem Var.own (B b : Nat) (v : Value) (t : TypeId) : OwnFrom B (fun (_ : Unit) W => Var W b v t) := ownFrom_block B b _ rfl
end Go.Proofs.Ytddbheoncbphhaa
