/- A region that draws its order, whose own operations only read, and whose callees leave all old memory alone and hand back a value that does not hang on the world: one walk in the order of the text, over the worlds that come later. -/
import Derived.Test.YtaanhijjhllckaaRows
import Derived.WalkKit
import Derived.BigQuiet
import Derived.Deep.QuietTactic
namespace Go.Proofs.Ytaanhijjhllckaa
set_option maxRecDepth 100000
open Go.RowKit

/-- a world that comes later than w: what lay in w lies there as it did -/
structure Later (w : World) where
  val : World
  ok : Below w.heap.size w val
theorem Later.nonempty (w : World) : Nonempty (Later w) := ⟨⟨w, Below.refl _ _⟩⟩
theorem Later.calls {P : Program} {f : FuncId} {args : Array Value} {w : World} {L : Later w} {v : Value}
    (h : Calls P f args L.val fun e w' => e = .returned v ∧ Below L.val.heap.size L.val w') : Calls P f args L.val fun e w'' => e = .returned v ∧ ∃ L' : Later w, w'' = L'.val :=
  h.mono fun _ w' ⟨he, hb⟩ => ⟨he, ⟨w', L.ok.trans (hb.mono L.ok.size)⟩, rfl⟩
theorem Later.calls_same {P : Program} {f : FuncId} {args : Array Value} {w : World} {L : Later w} {v : Value}
    (h : Calls P f args L.val fun e w' => e = .returned v ∧ L.val = w') : Calls P f args L.val fun e w'' => e = .returned v ∧ ∃ L' : Later w, w'' = L'.val :=
  h.mono fun _ _ ⟨he, hb⟩ => ⟨he, L, hb.symm⟩
theorem wp_region_later {P : Program} {id : Nat} {Q : Exit → Act → World → Prop} {a : Act} {w W0 : World} {l : List Oper} (hw : Below W0.heap.size W0 w) (hm : P.follows .mixedOrders = true) (hB : Region.lexB .any l.toArray = true)
    (h : wpQuiet P l.toArray (fun w' => ∃ L : Later W0, w' = L.val) (fun a' => ∀ w', (∃ L : Later W0, w' = L.val) → Q .normal a' w') l a) : (Code.region id l.toArray true).wp P Q a w :=
  wp_region_quiet (C := fun w' => ∃ L : Later W0, w' = L.val) hm hB ⟨⟨w.drew, hw.drew⟩, rfl⟩ (by simpa using h)
theorem Later.cell {w : World} (L : Later w) (p : Addr) (hp : p.block < w.heap.size) : L.val.cell? p = w.cell? p := L.ok.cell hp
end Go.Proofs.Ytaanhijjhllckaa
