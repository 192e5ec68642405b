/- Law 5's set and awake, walked. -/
import Derived.Test.YtlgpbgcheeaalaaGreatDoorTreeGood
import Derived.Test.YtlgpbgcheeaalaaGreatDoorBlockAppend
import Derived.Test.YtlgpbgcheeaalaaGreatDoorEager
import Derived.Test.YtlgpbgcheeaalaaGreatDoorText
namespace Go.Proofs.YtlgpbgcheeaalaaGreatDoor
set_option maxRecDepth 100000
open Go.RowKit
/-- a node in a block of its own -/
def NodeIn (w : World) (b : Nat) (cs : Array Value) : Prop := w.heap[b]? = some (.cells cs 39)
theorem wpList_store_node {ops : Array Oper} {rest : List Oper} {o : Oper} {a : Act} {w : World} {Q : Exit → Act → World → Prop} (hgd : o.guard = none) (x y : Operand) (ho : o.op = .store 39 x y)
    (b : Nat) (cs ds : Array Value) (hx : a.eval x = .pointer (some ⟨b, 0, none⟩)) (hy : a.eval y = .agg ds) (hb : NodeIn w b cs) (hd : ds.size = 9) (hc : cs.size = 9) (h1 : (ds.all fun x => x.oneCell') = true)
    (h : ∀ w', NodeIn w' b ds → Only b w w' → wpList Tryz.prog ops Q rest (a.put o.dst undef) w') : wpList Tryz.prog ops Q (o :: rest) a w :=
  wpList_store_row hgd _ _ _ ho b _ hx hy _ _ hb (by rw [hd]; exact infoNode) (by rw [hd, hc]) h1 (h _ (setRow_heap w b _ _ _ _ hb) (only_row _ _ _))
theorem results_node {fn : Func} {p : Tmp} (h : fn.results = #[.cell p 39]) (tmps : Array Value) (w : World) (b : Nat) (cs : Array Value) (hp : tmps.getD p undef = .pointer (some ⟨b, 0, none⟩)) (hs : NodeIn w b cs) (hc : cs.size = 9) :
    (results fn tmps).run Tryz.prog w = .ok (.agg cs) w := results_cell_row h tmps w b _ _ _ _ hp hs Tryz.underlying39 rfl (show _ = some cs.size from by rw [hc]; exact infoNode)
/-- a node of one byte -/
def oneSet (b : Nat) : BitVec 256 := setOf [b]
abbrev setV (s : BitVec 256) : Value := .agg #[.int .i64 1, .int .u64 (word s 0), .int .u64 (word s 1), .int .u64 (word s 2), .int .u64 (word s 3), .int .i64 0, .int .i64 0, .int .i64 0, .slice none 0 0]
end Go.Proofs.YtlgpbgcheeaalaaGreatDoor
