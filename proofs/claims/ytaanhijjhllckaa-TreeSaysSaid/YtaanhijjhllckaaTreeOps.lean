/- TreeKinds, TreeForm, TreeFormed, Held, TreeVisit, TreeFold, TreeNodes, TreeDeep, TreeGood, as one. -/
import Derived.Test.YtaanhijjhllckaaTreeHeavy
import Derived.Test.YtaanhijjhllckaaEq
import Derived.RangeFuncNested
import Derived.RangeFuncBound
import Derived.RangeFuncCalls
import Derived.RangeFuncLeaves
import Derived.Shelf.Abstract
import Derived.Shelf.RegionOpen
import Derived.WalkKit
import Derived.OwnWalkIn
import Derived.TacticsInMore
import Derived.LoopNIn
import Derived.LoopIn
import Derived.Test.YtaanhijjhllckaaRows
namespace Go.Proofs.Ytaanhijjhllckaa
set_option maxRecDepth 100000
open Go.RowKit
/-- the cells of a node -/
theorem at_cells {w : World} {x : Nd} {cs : List Value} (hat : Nd.at w x cs) : ∃ (s : BitVec 256) (lo hi n : Int) (a : Option Addr) (cap : Nat), x = .mk x.kind s lo hi n x.nodes ∧
    cs = [.int .i64 x.kind, .int .u64 (word s 0), .int .u64 (word s 1), .int .u64 (word s 2), .int .u64 (word s 3), .int .i64 lo, .int .i64 hi, .int .i64 n, .slice a x.nodes.length cap] := by
  cases x with
  | mk k s lo hi n l =>
    rw [at_mk] at hat
    obtain ⟨_, _, _, _, a, cap, hcs, _, _⟩ := hat
    exact ⟨s, lo, hi, n, a, cap, rfl, hcs⟩
def atomK (k : Int) : Bool := k == 1 || k == 5 || k == 6
def pieceK (k : Int) : Bool := atomK k || k == 4
def branchK (k : Int) : Bool := pieceK k || k == 2
set_option maxRecDepth 100000 in
set_option maxHeartbeats 1000000 in
theorem isAtom_walk {x : Nd} {cs : List Value} {w0 : World} (hat : Nd.at w0 x cs) (w : World) :
    Calls Try.prog 35 #[.agg cs.toArray] w fun e w' => e = .returned (.bool (atomK x.kind)) ∧ Below w.heap.size w w' := by
  obtain ⟨s, lo, hi, n, a, cap, _, rfl⟩ := at_cells hat
  generalize x.kind = k
  generalize x.nodes.length = len
  clear hat
  cases h1 : (k == 1) <;> cases h2 : (k == 5) <;> cases h3 : (k == 6) <;> (
    go_enter Try.func35, Try.ntmps35
    go_wp2
    go_ret
    exact ⟨by simp [atomK, h1, h2, h3], (Below.refl _ _).alloc (Nat.le_refl _) _⟩)
/-- behind a call that leaves a block of its own as it was -/
theorem box_below {w w2 : World} {o : Obj} (hb : Below (w.alloc o).heap.size (w.alloc o) w2) : Below w.heap.size w w2 :=
  ((Below.refl _ _).alloc (Nat.le_refl _) _).trans (hb.mono (by simp))
theorem box_cell {w w2 : World} {o : Obj} (hb : Below (w.alloc o).heap.size (w.alloc o) w2) (q : Nat) : w2.cell? ⟨w.heap.size, q, none⟩ = (w.alloc o).cell? ⟨w.heap.size, q, none⟩ :=
  hb.cell (p := ⟨w.heap.size, q, none⟩) (by simp)
set_option maxRecDepth 100000 in
set_option maxHeartbeats 1000000 in
theorem isPiece_walk {x : Nd} {cs : List Value} {w0 : World} (hat : Nd.at w0 x cs) (w : World) :
    Calls Try.prog 32 #[.agg cs.toArray] w fun e w' => e = .returned (.bool (pieceK x.kind)) ∧ Below w.heap.size w w' := by
  have hc := isAtom_walk hat
  obtain ⟨s, lo, hi, n, a, cap, _, rfl⟩ := at_cells hat
  clear hat
  generalize x.kind = k at *
  generalize x.nodes.length = len at *
  cases h1 : atomK k <;> rw [h1] at hc <;> cases h2 : (k == 4) <;> (
    go_enter Try.func32, Try.ntmps32
    go_wp2_with (go_at_call 35; refine (hc _).mono ?_; clear hc; rintro e w2 ⟨rfl, hb⟩; have hcell := box_cell hb)
    go_ret
    exact ⟨by simp [pieceK, h1, h2], box_below hb⟩)
set_option maxRecDepth 100000 in
set_option maxHeartbeats 1000000 in
theorem isBranch_walk {x : Nd} {cs : List Value} {w0 : World} (hat : Nd.at w0 x cs) (w : World) :
    Calls Try.prog 33 #[.agg cs.toArray] w fun e w' => e = .returned (.bool (branchK x.kind)) ∧ Below w.heap.size w w' := by
  have hc := isPiece_walk hat
  obtain ⟨s, lo, hi, n, a, cap, _, rfl⟩ := at_cells hat
  clear hat
  generalize x.kind = k at *
  generalize x.nodes.length = len at *
  cases h1 : pieceK k <;> rw [h1] at hc <;> cases h2 : (k == 2) <;> (
    go_enter Try.func33, Try.ntmps33
    go_wp2_with (go_at_call 32; refine (hc _).mono ?_; clear hc; rintro e w2 ⟨rfl, hb⟩; have hcell := box_cell hb)
    go_ret
    exact ⟨by simp [branchK, h1, h2], box_below hb⟩)
def boundedN (lo hi : Int) : Bool := decide (0 ≤ lo) && decide (lo ≤ 255) && (hi == -1 || decide (lo ≤ hi) && decide (hi ≤ 255))
set_option maxRecDepth 100000 in
set_option maxHeartbeats 1000000 in
theorem bounded_walk (lo hi : Int) (w : World) :
    Calls Try.prog 34 #[.int .i64 lo, .int .i64 hi] w fun e w' => e = .returned (.bool (boundedN lo hi)) ∧ w = w' := by
  cases h1 : decide (0 ≤ lo) <;> cases h2 : decide (lo ≤ 255) <;> cases h3 : (hi == -1) <;> cases h4 : decide (lo ≤ hi) <;> cases h5 : decide (hi ≤ 255) <;> (
    go_enter Try.func34, Try.ntmps34
    go_wp2
    go_ret
    exact ⟨by simp only [boundedN, h1, h2, h3, h4, h5]; rfl, rfl⟩)
end Go.Proofs.Ytaanhijjhllckaa
namespace Go.Proofs.Ytaanhijjhllckaa
set_option maxRecDepth 100000
open Go.RowKit
set_option maxRecDepth 100000 in
set_option maxHeartbeats 2000000 in
theorem all_piece {W0 : World} {l : List Nd} {a : Option Addr} {cap : Nat} (hmax : l.length ≤ maxLen) (hl : l.length = 0 ∨ ∃ b off, a = some ⟨b, off, none⟩ ∧ l.length ≤ cap ∧ b < W0.heap.size ∧ nodesAt W0 l b off)
    (w : World) (hb : Below W0.heap.size W0 w) :
    Calls Try.prog 31 #[.slice a l.length cap, .func (.func 32) #[] #[]] w fun e w' => e = .returned (.bool (l.all fun y => pieceK y.kind)) ∧ Below w.heap.size w w' := by
  have hmx : l.length ≤ 9223372036854775807 := Nat.le_trans hmax (by decide)
  obtain ⟨R, hR⟩ : ∃ R, R = l.all fun y => pieceK y.kind := ⟨_, rfl⟩
  rw [← hR]
  have HR := Lib.hid hR
  clear hR
  go_enter Try.func31, Try.ntmps31
  go_wp2_with fail
  go_loopw [9] (fun i wr => ∃ j : Nat, i = .int .i64 j ∧ j ≤ l.length ∧ Hid ((l.take j).all (fun y => pieceK y.kind) = true) ∧ Below w.heap.size w wr) (fun i _ => l.length - (intOf i).toNat)
  case atStart => exact ⟨0, rfl, Nat.zero_le _, rfl, Below.refl _ _⟩
  case round =>
    obtain ⟨j, rfl, hjl, hno, hB⟩ := hrel
    by_cases hjn : j < l.length
    · have hdj : decide ((j : Int) < l.length) = true := by simp; omega
      rcases hl with hl | ⟨b, off, rfl, hcap, hbw, hnodes⟩
      · omega
      obtain ⟨cs, hcs, hcell, hchild⟩ := nodes_get W0 b l off hnodes j hjn
      have hB0 : Below W0.heap.size W0 wr := hb.trans (hB.mono hb.size)
      have h9 : Node9 wr b (off + j * 9) cs := ⟨hcs, fun q hq => by rw [hB0.cell (p := ⟨b, off + j * 9 + q, none⟩) hbw]; exact hcell q hq⟩
      have hB2 : ∀ o, Below w.heap.size w (wr.alloc o) := fun o => hB.alloc hB.size o
      have hcall := isPiece_walk hchild
      have hstep : (l.take (j + 1)).all (fun y => pieceK y.kind) = pieceK l[j].kind := by
        rw [List.take_succ_eq_append_getElem hjn, List.all_append, hno.out]; simp
      have hany : pieceK l[j].kind = false → l.all (fun y => pieceK y.kind) = false := fun h => by
        rw [List.all_eq_false]
        exact ⟨l[j], List.getElem_mem hjn, by rw [h]; simp⟩
      obtain ⟨s', lo', hi', n', a2, cap2, _, hcs'⟩ := at_cells hchild
      generalize pieceK l[j].kind = v at hcall hstep hany
      generalize l[j].kind = k' at hcs'
      generalize l[j].nodes.length = len' at hcs'
      subst hcs'
      have Hstep := Lib.hid hstep
      have Hany := Lib.hid hany
      clear hstep hany hchild hcell hnodes
      cases v with
      | false =>
        have hRf : R = false := by rw [HR.out]; exact Hany.out rfl
        clear HR
        subst hRf
        go_wp2_with (first | (refine wpList_load_node rfl _ rfl b (off + j * 9) _ rfl h9 ?_) | (go_at_call 32; refine (hcall _).mono ?_; clear hcall; rintro e w3 ⟨rfl, hb3⟩) | fail)
        go_ret
        exact ⟨rfl, (hB2 _).trans (hb3.mono (hB2 _).size)⟩
      | true =>
        go_wp2_with (first | (refine wpList_load_node rfl _ rfl b (off + j * 9) _ rfl h9 ?_) | (go_at_call 32; refine (hcall _).mono ?_; clear hcall; rintro e w3 ⟨rfl, hb3⟩) | fail)
        go_roundw
        case rel => exact ⟨j + 1, by go_num, Nat.succ_le_of_lt hjn, Hstep.out, (hB2 _).trans (hb3.mono (hB2 _).size)⟩
        case measure => simp [intOf]; omega
    · obtain rfl : j = l.length := by omega
      have hdj : decide ((l.length : Int) < l.length) = false := by simp
      have hRt : R = true := by have h := hno.out; rw [List.take_length] at h; rw [HR.out, h]
      clear hl HR
      subst hRt
      go_wp2_with fail
      go_ret
      exact ⟨rfl, hB⟩
set_option maxRecDepth 100000 in
set_option maxHeartbeats 2000000 in
theorem all_branch {W0 : World} {l : List Nd} {a : Option Addr} {cap : Nat} (hmax : l.length ≤ maxLen) (hl : l.length = 0 ∨ ∃ b off, a = some ⟨b, off, none⟩ ∧ l.length ≤ cap ∧ b < W0.heap.size ∧ nodesAt W0 l b off)
    (w : World) (hb : Below W0.heap.size W0 w) :
    Calls Try.prog 31 #[.slice a l.length cap, .func (.func 33) #[] #[]] w fun e w' => e = .returned (.bool (l.all fun y => branchK y.kind)) ∧ Below w.heap.size w w' := by
  have hmx : l.length ≤ 9223372036854775807 := Nat.le_trans hmax (by decide)
  obtain ⟨R, hR⟩ : ∃ R, R = l.all fun y => branchK y.kind := ⟨_, rfl⟩
  rw [← hR]
  have HR := Lib.hid hR
  clear hR
  go_enter Try.func31, Try.ntmps31
  go_wp2_with fail
  go_loopw [9] (fun i wr => ∃ j : Nat, i = .int .i64 j ∧ j ≤ l.length ∧ Hid ((l.take j).all (fun y => branchK y.kind) = true) ∧ Below w.heap.size w wr) (fun i _ => l.length - (intOf i).toNat)
  case atStart => exact ⟨0, rfl, Nat.zero_le _, rfl, Below.refl _ _⟩
  case round =>
    obtain ⟨j, rfl, hjl, hno, hB⟩ := hrel
    by_cases hjn : j < l.length
    · have hdj : decide ((j : Int) < l.length) = true := by simp; omega
      rcases hl with hl | ⟨b, off, rfl, hcap, hbw, hnodes⟩
      · omega
      obtain ⟨cs, hcs, hcell, hchild⟩ := nodes_get W0 b l off hnodes j hjn
      have hB0 : Below W0.heap.size W0 wr := hb.trans (hB.mono hb.size)
      have h9 : Node9 wr b (off + j * 9) cs := ⟨hcs, fun q hq => by rw [hB0.cell (p := ⟨b, off + j * 9 + q, none⟩) hbw]; exact hcell q hq⟩
      have hB2 : ∀ o, Below w.heap.size w (wr.alloc o) := fun o => hB.alloc hB.size o
      have hcall := isBranch_walk hchild
      have hstep : (l.take (j + 1)).all (fun y => branchK y.kind) = branchK l[j].kind := by
        rw [List.take_succ_eq_append_getElem hjn, List.all_append, hno.out]; simp
      have hany : branchK l[j].kind = false → l.all (fun y => branchK y.kind) = false := fun h => by
        rw [List.all_eq_false]
        exact ⟨l[j], List.getElem_mem hjn, by rw [h]; simp⟩
      obtain ⟨s', lo', hi', n', a2, cap2, _, hcs'⟩ := at_cells hchild
      generalize branchK l[j].kind = v at hcall hstep hany
      generalize l[j].kind = k' at hcs'
      generalize l[j].nodes.length = len' at hcs'
      subst hcs'
      have Hstep := Lib.hid hstep
      have Hany := Lib.hid hany
      clear hstep hany hchild hcell hnodes
      cases v with
      | false =>
        have hRf : R = false := by rw [HR.out]; exact Hany.out rfl
        clear HR
        subst hRf
        go_wp2_with (first | (refine wpList_load_node rfl _ rfl b (off + j * 9) _ rfl h9 ?_) | (go_at_call 33; refine (hcall _).mono ?_; clear hcall; rintro e w3 ⟨rfl, hb3⟩) | fail)
        go_ret
        exact ⟨rfl, (hB2 _).trans (hb3.mono (hB2 _).size)⟩
      | true =>
        go_wp2_with (first | (refine wpList_load_node rfl _ rfl b (off + j * 9) _ rfl h9 ?_) | (go_at_call 33; refine (hcall _).mono ?_; clear hcall; rintro e w3 ⟨rfl, hb3⟩) | fail)
        go_roundw
        case rel => exact ⟨j + 1, by go_num, Nat.succ_le_of_lt hjn, Hstep.out, (hB2 _).trans (hb3.mono (hB2 _).size)⟩
        case measure => simp [intOf]; omega
    · obtain rfl : j = l.length := by omega
      have hdj : decide ((l.length : Int) < l.length) = false := by simp
      have hRt : R = true := by have h := hno.out; rw [List.take_length] at h; rw [HR.out, h]
      clear hl HR
      subst hRt
      go_wp2_with fail
      go_ret
      exact ⟨rfl, hB⟩
/-- the fields that are not of the kind -/
def blankN (k : Int) (s : BitVec 256) (lo hi n : Int) : Bool := (k == 1 || decide (s = 0)) && (k == 4 || lo == 0 && hi == 0) && (k == 5 || n == 0)
theorem elems_zero_iff (s : BitVec 256) : ((elems s).length : Int) = 0 ↔ s = 0 := by
  constructor
  · intro h
    have h2 : elems s = [] := List.length_eq_zero_iff.mp (by omega)
    apply BitVec.eq_of_getLsbD_eq
    intro c hc
    rw [elems_nil h2 c hc]; simp
  · rintro rfl
    decide +kernel
set_option maxRecDepth 100000 in
set_option maxHeartbeats 2000000 in
theorem blank_walk (k : Int) (s : BitVec 256) (lo hi n : Int) (a : Option Addr) (len cap : Nat) (w : World) :
    Calls Try.prog 24 #[.agg #[.int .i64 k, .int .u64 (word s 0), .int .u64 (word s 1), .int .u64 (word s 2), .int .u64 (word s 3), .int .i64 lo, .int .i64 hi, .int .i64 n, .slice a len cap]] w
      fun e w' => e = .returned (.bool (blankN k s lo hi n)) ∧ Below w.heap.size w w' := by
  have hlen := len_any s
  have h2 : (((elems s).length : Int) == 0) = decide (s = 0) := by rw [Bool.eq_iff_iff, beq_iff_eq, decide_eq_true_eq]; exact elems_zero_iff s
  generalize ((elems s).length : Int) = E at *
  unfold blankN
  generalize decide (s = 0) = b2 at *
  cases h1 : (k == 1) <;> cases b2 <;> cases h3 : (k == 4) <;> cases h4 : (lo == 0) <;> cases h5 : (hi == 0) <;> cases h6 : (k == 5) <;> cases h7 : (n == 0) <;> (
    go_enter Try.func24, Try.ntmps24
    go_wp2_with (go_at_call 30; refine (hlen _).mono ?_; clear hlen; rintro e w2 ⟨rfl, hb⟩; have hcell := box_cell hb; have hb' := Lib.hid hb; clear hb)
    go_ret
    first
      | exact ⟨rfl, (Below.refl _ _).alloc (Nat.le_refl _) _⟩
      | exact ⟨rfl, box_below hb'.out⟩)
end Go.Proofs.Ytaanhijjhllckaa
namespace Go.Proofs.Ytaanhijjhllckaa
set_option maxRecDepth 100000
open Go.RowKit
/-- a node out of memory, by an operation that stands behind a guard -/
theorem wpList_load_node_want {ops : Array Oper} {rest : List Oper} {o : Oper} {a : Act} {w : World} {Q : Exit → Act → World → Prop} (hw : Region.wanted o (yielded ops a.tmps) = true) (x : Operand) (ho : o.op = .load 27 x)
    (b off : Nat) (cs : List Value) (hx : a.eval x = .pointer (some ⟨b, off, none⟩)) (hc : Node9 w b off cs)
    (h : wpList Try.prog ops Q rest (a.put o.dst (.agg cs.toArray)) w) : wpList Try.prog ops Q (o :: rest) a w :=
  BigFrame.wpList_want hw fun _ hK => by
    unfold Oper.wp execOp
    simp only [ho, hx, Instr.loadAt, Instr.sureAddr, Sem.run_bind, Sem.run_pure, Result.andThen_ok, loadNode hc]
    exact hK _ _ h
/-- the fields that are of the kind, and which nodes are in it -/
def formedN (k : Int) (s : BitVec 256) (lo hi : Int) (l : List Nd) : Bool :=
  if k = 1 then !decide (s = 0) && decide (l.length = 0)
  else if k = 2 then decide (2 ≤ l.length) && l.all (fun y => pieceK y.kind)
  else if k = 3 then decide (2 ≤ l.length) && l.all (fun y => branchK y.kind)
  else if k = 4 then boundedN lo hi && decide (l.length = 1) && l.all (fun y => atomK y.kind)
  else if k = 5 ∨ k = 6 then decide (l.length = 1)
  else false
set_option maxRecDepth 100000 in
set_option maxHeartbeats 2000000 in
theorem formed_walk {W0 : World} {k : Int} {s : BitVec 256} {lo hi n : Int} {l : List Nd} {cs : List Value} (hat : Nd.at W0 (.mk k s lo hi n l) cs) (w : World) (hb : Below W0.heap.size W0 w) :
    Calls Try.prog 25 #[.agg cs.toArray] w fun e w' => e = .returned (.bool (formedN k s lo hi l)) ∧ Below w.heap.size w w' := by
  rw [at_mk] at hat
  obtain ⟨_, _, _, _, a, cap, rfl, hmax, hl⟩ := hat
  have hb1 : ∀ o, Below W0.heap.size W0 (w.alloc o) := fun o => hb.alloc hb.size o
  have hlen := len_any s
  have hp := fun o => all_piece hmax hl (w.alloc o) (hb1 o)
  have hbr := fun o => all_branch hmax hl (w.alloc o) (hb1 o)
  have hbd := bounded_walk lo hi
  have hs1 : decide (0 < ((elems s).length : Int)) = !decide (s = 0) := by
    rw [Bool.eq_iff_iff]
    have h := elems_zero_iff s
    simp only [Bool.not_eq_true', decide_eq_true_eq, decide_eq_false_iff_not]
    rw [← h]; omega
  have hl0 : ((l.length : Int) == 0) = decide (l.length = 0) := by rw [Bool.eq_iff_iff]; simp
  have hl1 : ((l.length : Int) == 1) = decide (l.length = 1) := by rw [Bool.eq_iff_iff, beq_iff_eq, decide_eq_true_eq]; omega
  have hl2 : decide ((2 : Int) ≤ l.length) = decide (2 ≤ l.length) := by rw [Bool.eq_iff_iff]; simp; omega
  by_cases h1 : k = 1
  · subst h1
    rw [show formedN 1 s lo hi l = (!decide (s = 0) && decide (l.length = 0)) from rfl]
    clear hp hbr hbd hl hl1 hl2
    generalize ((elems s).length : Int) = E at *
    generalize decide (s = 0) = b1 at *
    generalize decide (l.length = 0) = b2 at *
    cases b1 <;> cases b2 <;> (
      go_enter Try.func25, Try.ntmps25
      go_wp2_with (go_at_call 30; refine (hlen _).mono ?_; clear hlen; rintro e w2 ⟨rfl, hb3⟩; have hcell := box_cell hb3; have hb4 := Lib.hid hb3; clear hb3)
      go_ret
      exact ⟨rfl, box_below hb4.out⟩)
  by_cases h2 : k = 2
  · subst h2
    rw [show formedN 2 s lo hi l = (decide (2 ≤ l.length) && l.all (fun y => pieceK y.kind)) from rfl]
    clear hlen hbr hbd hl hl1 hl0
    generalize l.all (fun y => pieceK y.kind) = b1 at *
    generalize decide (2 ≤ l.length) = b2 at *
    cases b1 <;> cases b2 <;> (
      go_enter Try.func25, Try.ntmps25
      go_wp2_with (go_at_call 31; refine (hp _).mono ?_; clear hp; rintro e w2 ⟨rfl, hb3⟩; have hb4 := Lib.hid hb3; clear hb3)
      go_ret
      first
        | exact ⟨rfl, (Below.refl _ _).alloc (Nat.le_refl _) _⟩
        | exact ⟨rfl, box_below hb4.out⟩)
  by_cases h3 : k = 3
  · subst h3
    rw [show formedN 3 s lo hi l = (decide (2 ≤ l.length) && l.all (fun y => branchK y.kind)) from rfl]
    clear hlen hp hbd hl hl1 hl0
    generalize l.all (fun y => branchK y.kind) = b1 at *
    generalize decide (2 ≤ l.length) = b2 at *
    cases b1 <;> cases b2 <;> (
      go_enter Try.func25, Try.ntmps25
      go_wp2_with (go_at_call 31; refine (hbr _).mono ?_; clear hbr; rintro e w2 ⟨rfl, hb3⟩; have hb4 := Lib.hid hb3; clear hb3)
      go_ret
      first
        | exact ⟨rfl, (Below.refl _ _).alloc (Nat.le_refl _) _⟩
        | exact ⟨rfl, box_below hb4.out⟩)
  by_cases h4 : k = 4
  · subst h4
    rw [show formedN 4 s lo hi l = (boundedN lo hi && decide (l.length = 1) && l.all (fun y => atomK y.kind)) from rfl]
    clear hlen hp hbr hl0 hl2
    by_cases hone : l.length = 1 ∧ boundedN lo hi = true
    · rcases hl with hl | ⟨b, off, rfl, hcap, hbw, hnodes⟩
      · omega
      obtain ⟨x, rfl⟩ := List.length_eq_one_iff.mp hone.1
      rw [nodesAt_cons] at hnodes
      obtain ⟨⟨cs, hcs, hcell, hchild⟩, _⟩ := hnodes
      have h9 : ∀ o, Node9 (w.alloc o) b off cs := fun o => ⟨hcs, fun q hq => by rw [(hb1 o).cell (p := ⟨b, off + q, none⟩) hbw]; exact hcell q hq⟩
      have hcall := isAtom_walk hchild
      rw [hone.2]
      rw [hone.2] at hbd
      rw [show (true && decide ([x].length = 1) && [x].all fun y => atomK y.kind) = atomK x.kind from by simp]
      obtain ⟨s', lo', hi', n', a2, cap2, _, hcs'⟩ := at_cells hchild
      generalize atomK x.kind = v at hcall
      generalize x.kind = k' at hcs'
      generalize x.nodes.length = len' at hcs'
      subst hcs'
      clear hcell hchild hone hl1
      go_enter Try.func25, Try.ntmps25
      go_wp2_with (first | (refine wpList_load_node_want rfl _ rfl b off _ rfl (h9 _) ?_) | (go_at_call 34; refine (hbd _).mono ?_; clear hbd; rintro e w2 ⟨rfl, rfl⟩) | (go_at_call 35; refine (hcall _).mono ?_; clear hcall; rintro e w2 ⟨rfl, hb3⟩; have hb4 := Lib.hid hb3; clear hb3) | fail)
      go_ret
      exact ⟨rfl, box_below hb4.out⟩
    · have hz : (boundedN lo hi && decide (l.length = 1) && l.all fun y => atomK y.kind) = false := by
        cases h : boundedN lo hi
        · rfl
        · rw [decide_eq_false (fun h1 => hone ⟨h1, h⟩)]; rfl
      rw [hz]
      have hne : boundedN lo hi = false ∨ decide (l.length = 1) = false := by
        cases h : boundedN lo hi
        · exact .inl rfl
        · exact .inr (decide_eq_false (fun h1 => hone ⟨h1, h⟩))
      clear hz hone hl
      generalize boundedN lo hi = b1 at *
      generalize decide (l.length = 1) = b2 at *
      cases b1 <;> cases b2 <;> first | (exact absurd hne (by decide)) | (
        clear hne
        go_enter Try.func25, Try.ntmps25
        go_wp2_with (go_at_call 34; refine (hbd _).mono ?_; clear hbd; rintro e w2 ⟨rfl, rfl⟩)
        go_ret
        exact ⟨rfl, (Below.refl _ _).alloc (Nat.le_refl _) _⟩)
  clear hlen hp hbr hbd hl
  have e1 : (k == 1) = false := by simp [h1]
  have e2 : (k == 2) = false := by simp [h2]
  have e3 : (k == 3) = false := by simp [h3]
  have e4 : (k == 4) = false := by simp [h4]
  by_cases h5 : k = 5
  · subst h5
    rw [show formedN 5 s lo hi l = decide (l.length = 1) from rfl]
    generalize decide (l.length = 1) = b2 at *
    clear h1 h2 h3 h4 e1 e2 e3 e4
    cases b2 <;> (
      go_enter Try.func25, Try.ntmps25
      go_wp2
      go_ret
      exact ⟨rfl, (Below.refl _ _).alloc (Nat.le_refl _) _⟩)
  by_cases h6 : k = 6
  · subst h6
    rw [show formedN 6 s lo hi l = decide (l.length = 1) from rfl]
    generalize decide (l.length = 1) = b2 at *
    clear h1 h2 h3 h4 e1 e2 e3 e4
    cases b2 <;> (
      go_enter Try.func25, Try.ntmps25
      go_wp2
      go_ret
      exact ⟨rfl, (Below.refl _ _).alloc (Nat.le_refl _) _⟩)
  have e5 : (k == 5) = false := by simp [h5]
  have e6 : (k == 6) = false := by simp [h6]
  rw [show formedN k s lo hi l = false from by simp [formedN, h1, h2, h3, h4, h5, h6]]
  clear h1 h2 h3 h4 h5 h6
  go_enter Try.func25, Try.ntmps25
  go_wp2
  go_ret
  exact ⟨rfl, (Below.refl _ _).alloc (Nat.le_refl _) _⟩
end Go.Proofs.Ytaanhijjhllckaa
namespace Go.Proofs.Ytaanhijjhllckaa
set_option maxRecDepth 100000
open Go.RowKit

/-- new blocks, and what lies in them: nothing that lay has turned -/
theorem abides_still {β : Type} {B : Nat} {J : β → World → Prop} (h : AbidesFrom B J) {s : β} {W W' : World} (hs : J s W) (hb : Below W.heap.size W W') : J s W' :=
  h s W W' none hs ⟨hb.os, hb.tape, hb.output, hb.size, fun k hk _ => hb.block k hk⟩ (fun r e => by cases e)
/-- what an iterator does, of whatever rounds that leave the memory below n₀ as it was in w0, and the block that the iterator has laid last -/
def SeqHeld {α : Type} (P : Program) (g : Nat) (lb : Array Value) (enc : α → Value) (n₀ : Nat) (w0 : World) (S Sp : List α → Prop) (N : Nat) : Prop :=
  ∀ (l : Nat) (J Jx : List α → World → Prop) (W : World), Below n₀ w0 W → Below w0.heap.size w0 W → AbidesFrom W.heap.size J → AbidesFrom W.heap.size Jx →
    (∀ pre W', J pre W' → Below n₀ w0 W') → (∀ pre W', Jx pre W' → Below n₀ w0 W') →
    (∀ m pre x W1 o, J pre W1 → o.isCells = true → pre.length < N → YieldAt Fence.wide m P l #[enc x] (W1.alloc o) fun e W' =>
      ((e = .returned (.bool true) ∧ J (pre ++ [x]) W') ∨ (e = .returned (.bool false) ∧ Jx (pre ++ [x]) W')) ∧ W'.heap[W1.heap.size]? = some o) →
    J [] W →
    ∀ m, CallsIn Fence.wide m P g (#[.func (.yield l) #[] #[]] ++ lb) W fun e W' => (∃ v, e = .returned v) ∧ ((∃ xs, S xs ∧ J xs W') ∨ (∃ pre, Sp pre ∧ Jx pre W'))

/-- how a round may be left -/
def heldPost {α : Type} (B b : Nat) (o : Obj) (I : List α → World → Prop) (Ix : Code → List α → World → Prop) (xs : List α) (W : World) : Exit → Act → World → Prop
  | .normal, _, W' => (KeepsFrom B W W' ∧ W'.heap[b]? = some o) ∧ I xs W'
  | .ret, _, W' => (KeepsFrom B W W' ∧ W'.heap[b]? = some o) ∧ Ix .ret xs W'
  | .exit id, _, W' => (KeepsFrom B W W' ∧ W'.heap[b]? = some o) ∧ Ix (.exit id) xs W'
  | .goto t, _, W' => (KeepsFrom B W W' ∧ W'.heap[b]? = some o) ∧ Ix (.goto t) xs W'
  | .panic _, _, _ => False
  | .outgrown, _, _ => False

theorem wp_range_held {α : Type} {n : Nat} {P : Program} {g : Operand} {p : Tmp} {assign body : Code} {Q : Exit → Act → World → Prop} {a : Act} {w : World}
    {gf : Nat} {lb : Array Value} (hg : a.eval g = .func (.func gf) #[] lb) (eg : ∀ args w, (callFunc gf args).run P w = .ok (.enter gf args) w)
    {enc : α → Value} {n₀ : Nat} {w0 : World} {S Sp : List α → Prop} {N : Nat} (hseq : SeqHeld P gf lb enc n₀ w0 S Sp N) (hn : n₀ ≤ w0.heap.size) (hb0 : Below w0.heap.size w0 w)
    (I : List α → World → Prop) (Ix : Code → List α → World → Prop) (hI : OwnFrom w.heap.size I) (hIx : ∀ c, OwnFrom w.heap.size (Ix c))
    (hIb : ∀ pre W, I pre W → Below n₀ w0 W) (hIxb : ∀ c pre W, Ix c pre W → Below n₀ w0 W) (h0 : I [] w)
    (hturn : ∀ (l m : Nat) (pre : List α) (x : α) (W : World) (o : Obj) (K : Act → World → Prop), I pre W → o.isCells = true → pre.length < N → w.heap.size < W.heap.size →
      (∀ a' W', KeepsFrom w.heap.size (W.alloc o) W' →
        (∀ W3, (∀ Pr : World → Prop, OwnFrom w.heap.size (fun (_ : Unit) V => Pr V) → Pr W' → Pr W3) → W3.heap.size = W'.heap.size → body.wpIn (Fence.wide.inRound l) m P (heldPost w.heap.size W.heap.size o I Ix (pre ++ [x]) W3) a' W3) → K a' W') →
      assign.wpIn (Fence.wide.inRound l) m P (Exit.then K (fun _ _ _ => False)) { tmps := a.tmps.setIfInBounds p (enc x), defers := [] } (W.alloc o))
    (hdone : ∀ (D : Nat) (xs : List α) (W : World), w.heap.size ≤ D → S xs → I xs W → W.heap[D]? = some (.deferred (some [])) → Q .normal { a with defers := { target := .collected D, args := #[] } :: a.defers } W)
    (hstop : ∀ (D : Nat) (c : Code) (pre : List α) (W : World), w.heap.size ≤ D → Sp pre → Ix c pre W → W.heap[D]? = some (.deferred (some [])) → c.wpIn Fence.wide n P Q { a with defers := { target := .collected D, args := #[] } :: a.defers } W) :
    (Code.rangeFunc g #[p] assign body).wpIn Fence.wide n P Q a w := by
  refine wpIn_rangeFunc fun fn hfn => ?_
  generalize hB : w.heap.size = B at *
  -- the record of the loop, in each of its states
  let rec' : LoopState → Option Code → Obj := fun st pe => .loop { state := st, pending := pe, fn, tmps := a.tmps, params := #[p], assign, body, defers := B }
  have hsz2 : ((w.alloc (.deferred (some []))).alloc (rec' .ready none)).heap.size = B + 2 := by simp [hB]
  have hrec1 : ((w.alloc (.deferred (some []))).alloc (rec' .ready none)).heap[B + 1]? = some (rec' .ready none) := by
    have h := World.alloc_heap_new (w.alloc (.deferred (some []))) (rec' .ready none)
    rw [World.size_alloc, hB] at h; exact h
  have hdef1 : ((w.alloc (.deferred (some []))).alloc (rec' .ready none)).heap[B]? = some (.deferred (some [])) := by
    have h := World.alloc_heap_new w (.deferred (some []))
    rw [hB] at h
    exact (Below.heap_alloc _ _ _ (by simp; omega)).trans h
  have hnew : Below w0.heap.size w0 ((w.alloc (.deferred (some []))).alloc (rec' .ready none)) :=
    (hb0.alloc hb0.size _).alloc (by have := hb0.size; simp; omega) _
  have hstart : I [] ((w.alloc (.deferred (some []))).alloc (rec' .ready none)) := hI.alloc _ (hI.alloc _ h0)
  have henter := run_enterLoop_outer (P := P) (w := w) fn a.tmps #[p] assign body
  rw [hB] at henter
  -- the invariants that the iterator is given: the caller's own, the two blocks beside
  let J : List α → World → Prop := fun pre W => I pre W ∧ W.heap[B + 1]? = some (rec' .ready none) ∧ W.heap[B]? = some (.deferred (some []))
  let Jx : List α → World → Prop := fun pre W => ∃ c, Ix c pre W ∧ W.heap[B + 1]? = some (rec' .done (some c)) ∧ W.heap[B]? = some (.deferred (some []))
  -- a walk's block lies beyond B and holds no cells
  have hwalk : ∀ {A : World} {row : Option Nat}, (∀ r, row = some r → B + 2 ≤ r ∧ ∃ o : Obj, A.heap[r]? = some o ∧ o.isWalk = true) → ∀ r, row = some r → B ≤ r ∧ ∃ o : Obj, A.heap[r]? = some o ∧ o.isCells = false := by
    intro A row h r e
    obtain ⟨h1, o, h2, h3⟩ := h r e
    exact ⟨by omega, o, h2, Obj.not_cells_of_walk h3⟩
  have hJ : AbidesFrom (B + 2) J := fun s A A' row ⟨h1, h2, h3⟩ hg hr =>
    ⟨hI s A A' row h1 hg (hwalk hr), (grownBy_keeps hg (fun r e => (hr r e).2) h2 rfl).trans h2, (grownBy_keeps hg (fun r e => (hr r e).2) h3 rfl).trans h3⟩
  have hJx : AbidesFrom (B + 2) Jx := fun s A A' row ⟨c, h1, h2, h3⟩ hg hr =>
    ⟨c, hIx c s A A' row h1 hg (hwalk hr), (grownBy_keeps hg (fun r e => (hr r e).2) h2 rfl).trans h2, (grownBy_keeps hg (fun r e => (hr r e).2) h3 rfl).trans h3⟩
  -- one round
  have hround : ∀ m pre x W1 o, J pre W1 → o.isCells = true → pre.length < N → YieldAt Fence.wide m P (B + 1) #[enc x] (W1.alloc o) fun e W' =>
      ((e = .returned (.bool true) ∧ J (pre ++ [x]) W') ∨ (e = .returned (.bool false) ∧ Jx (pre ++ [x]) W')) ∧ W'.heap[W1.heap.size]? = some o := by
    rintro m pre x W1 o ⟨hi, hl, hk⟩ hcells hlen
    have hBW : B + 1 < W1.heap.size := (Array.getElem?_eq_some_iff.1 hl).1
    have hl1 : (W1.alloc o).heap[B + 1]? = some (rec' .ready none) := (Below.heap_alloc W1 o _ hBW).trans hl
    have hk1 : (W1.alloc o).heap[B]? = some (.deferred (some [])) := (Below.heap_alloc W1 o _ (by omega)).trans hk
    refine ⟨fn, _, assign, body, run_yield (args := #[enc x]) hl1 rfl, roundIn_of_wpIn hfn ?_⟩
    have htm : ((#[p] : Array Tmp).zip #[enc x]).foldl (fun t (q : Tmp × Value) => match q with | (p, v) => t.setIfInBounds p v) a.tmps = a.tmps.setIfInBounds p (enc x) := by simp
    refine Eq.mpr (congrArg (fun t => Code.wpIn (Fence.wide.inRound (B + 1)) m P assign _ { tmps := t, defers := [] } (W1.alloc o)) htm) ?_
    refine hturn (B + 1) m pre x W1 o _ hi hcells hlen (by omega) fun a' W2 hkeep hbody => ?_
    have hl2 := hkeep.same _ _ (by omega) hl1 rfl
    have hk2 := hkeep.same _ _ (Nat.le_refl _) hk1 rfl
    refine ⟨_, run_beginRound hl2 rfl, ?_⟩
    generalize hW3 : W2.putObj (B + 1) _ = W3
    have hto : ∀ Pr : World → Prop, OwnFrom B (fun (_ : Unit) V => Pr V) → Pr W2 → Pr W3 := fun Pr hPr h => hW3 ▸ hPr.putObj (s := ()) _ h (by omega) hl2 rfl
    have hs3 : W3.heap.size = W2.heap.size := by rw [← hW3]; simp
    have hl3 : W3.heap[B + 1]? = some (rec' .busy none) := by rw [← hW3]; exact World.putObj_heap_same (Array.getElem?_eq_some_iff.1 hl2).1
    have hk3 : W3.heap[B]? = some (.deferred (some [])) := by rw [← hW3]; exact (World.putObj_heap_other (by omega)).trans hk2
    refine wpIn_mono (hbody W3 hto hs3) ?_
    -- the record once more, behind the body
    have hend : ∀ (jump : Option Code) (W4 : World), (KeepsFrom B W3 W4 ∧ W4.heap[W1.heap.size]? = some o) → ∃ W5, (Instr.endRound (B + 1) jump).run P W4 = .ok (.bool jump.isNone) W5 ∧
        (∀ I' : List α → World → Prop, OwnFrom B I' → ∀ q, I' q W4 → I' q W5) ∧ W5.heap[B + 1]? = some (rec' (if jump.isNone then .ready else .done) jump) ∧ W5.heap[B]? = some (.deferred (some [])) ∧ W5.heap[W1.heap.size]? = some o := by
      intro jump W4 ⟨h4, h5⟩
      have hl4 := h4.same _ _ (by omega) hl3 rfl
      have hk4 := h4.same _ _ (Nat.le_refl _) hk3 rfl
      exact ⟨_, run_endRound jump hl4, fun I' hI' q hq => hI'.putObj _ hq (by omega) hl4 rfl, World.putObj_heap_same (Array.getElem?_eq_some_iff.1 hl4).1, (World.putObj_heap_other (by omega)).trans hk4, (World.putObj_heap_other (by omega)).trans h5⟩
    intro e a4 W4 hp
    match e, hp with
    | .normal, hp =>
      obtain ⟨W5, h1, h2, h3, h4, h5⟩ := hend none W4 hp.1
      exact ⟨_, _, h1, .inl ⟨rfl, h2 I hI _ hp.2, h3, h4⟩, h5⟩
    | .ret, hp =>
      obtain ⟨W5, h1, h2, h3, h4, h5⟩ := hend (some .ret) W4 hp.1
      exact ⟨_, _, h1, .inr ⟨rfl, .ret, h2 _ (hIx _) _ hp.2, h3, h4⟩, h5⟩
    | .exit id, hp =>
      obtain ⟨W5, h1, h2, h3, h4, h5⟩ := hend (some (.exit id)) W4 hp.1
      exact ⟨_, _, h1, .inr ⟨rfl, .exit id, h2 _ (hIx _) _ hp.2, h3, h4⟩, h5⟩
    | .goto t, hp =>
      obtain ⟨W5, h1, h2, h3, h4, h5⟩ := hend (some (.goto t)) W4 hp.1
      exact ⟨_, _, h1, .inr ⟨rfl, .goto t, h2 _ (hIx _) _ hp.2, h3, h4⟩, h5⟩
  refine ⟨B + 1, [{ target := .collected B, args := #[] }], (w.alloc (.deferred (some []))).alloc (rec' .ready none), { target := .fn (.func gf) lb, args := #[.func (.yield (B + 1)) #[] #[]] }, (w.alloc (.deferred (some []))).alloc (rec' .ready none), gf, #[.func (.yield (B + 1)) #[] #[]] ++ lb, (w.alloc (.deferred (some []))).alloc (rec' .ready none), henter, ?_, fun _ _ => trivial, ?_, fun h => by simp [Fence.wide] at h, ?_⟩
  · simp only [resolve, hg]
    simp [go_sem]
  · simp [invoke, go_sem, eg]
  · refine (hseq (B + 1) J Jx _ (hnew.mono hn) hnew (hsz2 ▸ hJ) (hsz2 ▸ hJx) (fun pre W' h => hIb pre W' h.1) (fun pre W' ⟨c, h, _⟩ => hIxb c pre W' h) hround ⟨hstart, hrec1, hdef1⟩ _).mono ?_
    rintro e W2 ⟨⟨v, rfl⟩, (⟨xs, hS, hi, hl, hk⟩ | ⟨pre, hSp, c, hi, hl, hk⟩)⟩
    · exact ⟨none, _, run_endLoop hl (by simp), hdone B xs _ (Nat.le_refl _) hS (hI.putObj _ hi (by omega) hl rfl) ((World.putObj_heap_other (by omega)).trans hk)⟩
    · exact ⟨some c, _, run_endLoop hl (by simp), hstop B c pre _ (Nat.le_refl _) hSp ((hIx c).putObj _ hi (by omega) hl rfl) ((World.putObj_heap_other (by omega)).trans hk)⟩
/-- a block of cells stays through whatever the law itself does -/
theorem ownFrom_block (B b : Nat) (o : Obj) (ho : o.isCells = true) : OwnFrom B (fun (_ : Unit) W => W.heap[b]? = some o) :=
  fun _ _ _ _ hs hg hr => (grownBy_keeps_cells hg (fun r e => (hr r e).2) hs ho).trans hs
theorem ownFrom_cell (B : Nat) (p : Addr) (v : Value) : OwnFrom B (fun (_ : Unit) W => W.cell? p = some v) :=
  fun _ _ _ _ hs hg hr => cell_kept hs hg (fun r e => (hr r e).2)
end Go.Proofs.Ytaanhijjhllckaa
namespace Go.Proofs.Ytaanhijjhllckaa
set_option maxRecDepth 100000
open Go.RowKit Go.Shelf

attribute [local go_sem] Oper.semAt_some

/-! the nodes in the order in which they begin -/
mutual
def Nd.pre : Nd → List Nd
  | .mk k s lo hi n l => .mk k s lo hi n l :: pres l
def pres : List Nd → List Nd
  | [] => []
  | x :: l => x.pre ++ pres l
end
theorem pre_mk (k : Int) (s : BitVec 256) (lo hi n : Int) (l : List Nd) : (Nd.mk k s lo hi n l).pre = .mk k s lo hi n l :: pres l := by rw [Nd.pre]
theorem pres_cons (x : Nd) (l : List Nd) : pres (x :: l) = x.pre ++ pres l := by rw [pres]
theorem pres_nil : pres [] = [] := by rw [pres]
theorem counts_cons (x : Nd) (l : List Nd) : counts (x :: l) = x.count + counts l := by rw [counts]
theorem counts_nil : counts [] = 0 := by rw [counts]
mutual
theorem Nd.pre_length : ∀ x : Nd, x.pre.length = x.count
  | .mk k s lo hi n l => by rw [pre_mk, count_mk, List.length_cons, pres_length l]; omega
theorem pres_length : ∀ l : List Nd, (pres l).length = counts l
  | [] => by rw [pres_nil, counts_nil]; rfl
  | x :: l => by rw [pres_cons, counts_cons, List.length_append, Nd.pre_length x, pres_length l]
end
theorem pres_append (l m : List Nd) : pres (l ++ m) = pres l ++ pres m := by
  induction l with
  | nil => rw [pres_nil]; rfl
  | cons x l ih => rw [List.cons_append, pres_cons, pres_cons, ih, List.append_assoc]
theorem counts_append (l m : List Nd) : counts (l ++ m) = counts l + counts m := by
  rw [← pres_length, ← pres_length, ← pres_length, pres_append, List.length_append]
/-- a node with its cells, in a world -/
abbrev NV (W0 : World) := { p : Nd × List Value // Nd.at W0 p.1 p.2 }
/-- the nodes that have come -/
def nds {W0 : World} (q : List (NV W0)) : List Nd := q.map (·.1.1)
theorem nds_append {W0 : World} (q r : List (NV W0)) : nds (q ++ r) = nds q ++ nds r := List.map_append
/-- as far as the first j nodes in a node reach -/
def fore (x : Nd) (j left : Nat) : List Nd := (x :: pres (x.nodes.take j)).take left
theorem fore_zero (x : Nd) {left : Nat} (h : 1 ≤ left) : fore x 0 left = [x] := by
  unfold fore
  rw [List.take_zero, pres_nil, List.take_of_length_le (by simpa using h)]
theorem fore_all (x : Nd) (left : Nat) : fore x x.nodes.length left = x.pre.take left := by
  unfold fore
  rw [List.take_length]
  cases x with
  | mk k s lo hi n l => rw [pre_mk]; rfl
theorem counts_take_le (l : List Nd) (j : Nat) : counts (l.take j) ≤ counts l := by
  have h := counts_append (l.take j) (l.drop j)
  rw [List.take_append_drop] at h
  omega
theorem fore_full (x : Nd) (j left : Nat) (h : left ≤ 1 + counts (x.nodes.take j)) : fore x j left = x.pre.take left := by
  unfold fore
  have hp : x.pre = (x :: pres (x.nodes.take j)) ++ pres (x.nodes.drop j) := by
    rw [List.cons_append, ← pres_append, List.take_append_drop]
    cases x with
    | mk k s lo hi n l => rw [pre_mk]; rfl
  rw [hp, List.take_append_of_le_length (by rw [List.length_cons, pres_length]; omega)]
theorem take_succ_counts (l : List Nd) (j : Nat) (hj : j < l.length) : counts (l.take (j + 1)) = counts (l.take j) + l[j].count := by
  rw [List.take_succ_eq_append_getElem hj, counts_append, counts_cons, counts_nil]; rfl
theorem fore_succ (x : Nd) (j left : Nat) (hj : j < x.nodes.length) :
    fore x (j + 1) left = fore x j left ++ (x.nodes[j].pre).take (left - (1 + counts (x.nodes.take j))) := by
  unfold fore
  rw [List.take_succ_eq_append_getElem hj, pres_append, pres_cons, pres_nil, List.append_nil, ← List.cons_append, List.take_append]
  rw [List.length_cons, pres_length, Nat.add_comm (counts _) 1]
theorem fore_prefix (x : Nd) (j left : Nat) : fore x j left <+: x.pre.take left := by
  unfold fore
  have hp : x.pre = (x :: pres (x.nodes.take j)) ++ pres (x.nodes.drop j) := by
    rw [List.cons_append, ← pres_append, List.take_append_drop]
    cases x with
    | mk k s lo hi n l => rw [pre_mk]; rfl
  rw [hp, List.take_append]
  exact List.prefix_append _ _
theorem fore_length (x : Nd) (j left : Nat) : (fore x j left).length = min left (1 + counts (x.nodes.take j)) := by
  unfold fore
  rw [List.length_take, List.length_cons, pres_length]; omega
theorem nums_len {left c p qn : Nat} (hp : ¬ p = 0) (hp' : p = left - (1 + c)) (h : qn = min left (1 + c)) : qn = 1 + c := by omega
theorem nums_fit {left c p N a : Nat} (hp : ¬ p = 0) (hp' : p = left - (1 + c)) (h : a + left ≤ N) : a + (1 + c) + p ≤ N := by omega
theorem nums_le {left c p : Nat} (hp' : p = left - (1 + c)) (h : left ≤ 100000) : p ≤ 100000 := by omega
theorem nums_next {left c p d e : Nat} (h1 : e = c + d) (h2 : p = left - (1 + c)) : p - d = left - (1 + e) := by omega
/-- what a call of visit ends in -/
def VisitPost {W0 : World} (J Jx : List (NV W0) → World → Prop) (x : Nd) (pre : List (NV W0)) (left : Nat) (e : Ending) (W' : World) : Prop :=
  (∃ q : List (NV W0), nds q = x.pre.take left ∧ e = .returned (.int .i64 ((left - x.count : Nat) : Int)) ∧ J (pre ++ q) W') ∨
  (e = .returned (.int .i64 0) ∧ ∃ q : List (NV W0), nds q <+: x.pre.take left ∧ Jx (pre ++ q) W')
set_option maxRecDepth 100000 in
set_option maxHeartbeats 2000000 in
theorem visit_in (l : Nat) (W0 : World) (N B : Nat) (J Jx : List (NV W0) → World → Prop) (hJ : AbidesFrom B J) (hJx : AbidesFrom B Jx)
    (hJb : ∀ pre W', J pre W' → Below W0.heap.size W0 W') (hJxb : ∀ pre W', Jx pre W' → Below W0.heap.size W0 W')
    (hY : ∀ m pre (x : NV W0) W1 o, J pre W1 → o.isCells = true → pre.length < N → YieldAt Fence.wide m Try.prog l #[.agg x.1.2.toArray] (W1.alloc o) fun e W' =>
      ((e = .returned (.bool true) ∧ J (pre ++ [x]) W') ∨ (e = .returned (.bool false) ∧ Jx (pre ++ [x]) W')) ∧ W'.heap[W1.heap.size]? = some o) :
    ∀ (m : Nat) (x : Nd), x.count ≤ m → ∀ (n : Nat) (cs : List Value) (pre : List (NV W0)) (W : World) (left : Nat), Nd.at W0 x cs → J pre W → 1 ≤ left → left ≤ 100000 → pre.length + left ≤ N →
      CallsIn Fence.wide n Try.prog 29 #[.agg cs.toArray, .int .i64 left, .func (.yield l) #[] #[]] W (VisitPost J Jx x pre left)
  | 0, x, hm => by have := Nd.count_pos x; omega
  | m + 1, .mk k s lo hi nn ls, hm => by
    intro n cs pre W left hat hj h1 hle hN
    have ih := visit_in l W0 N B J Jx hJ hJx hJb hJxb hY m
    have hat' := hat
    rw [at_mk] at hat
    obtain ⟨_, _, _, _, a, cap, hcs, hmax, hl⟩ := hat
    have hy := hY (n - 1) pre ⟨(.mk k s lo hi nn ls, cs), hat'⟩ W (.cells cs.toArray 27) hj rfl (by omega)
    subst hcs
    obtain ⟨fn, tmps, assign, body, hyr, hR⟩ := hy
    have hR' := hR.mono (R' := fun e W' => (e = .returned (.bool true) ∧ J (pre ++ [⟨(.mk k s lo hi nn ls, _), hat'⟩]) W' ∧ W'.cell? ⟨W.heap.size, 8, none⟩ = some (.slice a ls.length cap)) ∨ (e = .returned (.bool false) ∧ Jx (pre ++ [⟨(.mk k s lo hi nn ls, _), hat'⟩]) W'))
      (fun e W' h => h.1.elim (fun h1 => .inl ⟨h1.1, h1.2, by simp [World.cell?, h.2]⟩) .inr)
    clear hR
    have hmore : decide ((1 : Int) = ((left : Nat) : Int)) = decide (left = 1) := by
      by_cases h : left = 1
      · subst h; rfl
      · rw [decide_eq_false h, decide_eq_false (by omega)]
    have hmx : ls.length ≤ 9223372036854775807 := Nat.le_trans hmax (by decide)
    have hdd : ∀ k : Nat, (Fence.wide.depth.isSome = true → 1 ≤ k) := fun k h => by cases h
    have hx0 : nds (W0 := W0) [⟨(.mk k s lo hi nn ls, _), hat'⟩] = fore (.mk k s lo hi nn ls) 0 left := by rw [fore_zero _ h1]; rfl
    generalize (⟨(.mk k s lo hi nn ls, _), hat'⟩ : NV W0) = x0 at hR' hx0
    dsimp only at hyr
    obtain ⟨X, hX⟩ : ∃ X : Nd, X = .mk k s lo hi nn ls := ⟨_, rfl⟩
    have hXn : X.nodes = ls := by rw [hX]; rfl
    have hXc : X.count = 1 + counts ls := by rw [hX, count_mk]
    rw [← hX] at hx0 hm ⊢
    have HX := Lib.hid hX
    have HXn := Lib.hid hXn
    have HXc := Lib.hid hXc
    have Hx0 := Lib.hid hx0
    clear hX hXn hXc hx0 hat'
    refine callsIn_of_wp Try.func29 rfl trivial ?_ rfl
    simp only [Try.ntmps29, List.size_toArray, List.length_cons, List.length_nil, Nat.reduceAdd, Nat.reduceSub, Array.replicate_succ, Array.replicate_zero, List.push_toArray, List.append_toArray, List.nil_append, List.cons_append]
    gi_wp2_with ((try refine ⟨hdd _, ?_⟩); refine hR'.mono ?_; clear hR'; rintro e W2 (⟨rfl, hJ2, c8⟩ | ⟨rfl, hx2⟩))
    · clear c8 hyr
      refine wpIn_wide.2 ?_
      go_loopw [1, 18] (fun v i wr => ∃ (j p : Nat), v = .int .i64 p ∧ i = .int .i64 j ∧ j ≤ ls.length ∧ ((∃ q, nds q = fore X j left ∧ p = left - (1 + counts (ls.take j)) ∧ J (pre ++ q) wr) ∨ (p = 0 ∧ ∃ q, nds q <+: X.pre.take left ∧ Jx (pre ++ q) wr))) (fun _ i _ => ls.length - (intOf i).toNat)
      case atStart =>
        refine ⟨0, left - 1, congrArg (Value.int .i64) (by omega), rfl, Nat.zero_le _, .inl ⟨[x0], Hx0.out, ?_, hJ2⟩⟩
        rw [List.take_zero, counts_nil]
      case round =>
        obtain ⟨j, p, rfl, rfl, hjl, hrel⟩ := hrel
        by_cases hjn : j < ls.length
        · have hdj : decide ((j : Int) < ls.length) = true := by simp; omega
          rcases hl with hl | ⟨b, off, rfl, hcap, hbw, hnodes⟩
          · omega
          obtain ⟨cs, hcs, hcell, hchild⟩ := nodes_get W0 b ls off hnodes j hjn
          have hbel : Below W0.heap.size W0 wr := hrel.elim (fun ⟨_, _, _, h⟩ => hJb _ _ h) (fun ⟨_, _, _, h⟩ => hJxb _ _ h)
          have h9 : Node9 wr b (off + j * 9) cs := ⟨hcs, fun q hq => by rw [hbel.cell (p := ⟨b, off + j * 9 + q, none⟩) hbw]; exact hcell q hq⟩
          have hcount : ls[j].count ≤ m := by
            have h1 := HXc.out
            have h2 := counts_mem (List.getElem_mem hjn)
            omega
          have hstep : fore X (j + 1) left = fore X j left ++ (ls[j].pre).take (left - (1 + counts (ls.take j))) := by
            have e := HX.out
            subst e
            exact fore_succ (.mk k s lo hi nn ls) j left hjn
          have hcnt := take_succ_counts ls j hjn
          have hful : left ≤ 1 + counts (ls.take j) → fore X j left = X.pre.take left := fun h => by
            have e := HX.out
            subst e
            exact fore_full (.mk k s lo hi nn ls) j left h
          have hful2 : 1 + counts (ls.take j) ≤ X.count := by
            rw [HXc.out]; have := counts_take_le ls j; omega
          have hlen : (fore X j left).length = min left (1 + counts (ls.take j)) := by
            have e := HX.out
            subst e
            exact fore_length _ _ _
          have hpre : ∀ t : List Nd, t <+: fore X (j + 1) left → t <+: X.pre.take left := fun t h => h.trans (fore_prefix _ _ _)
          generalize hch : ls[j] = ch at hchild hcount hstep hcnt
          have hchild' := hchild
          cases ch with
          | mk k' s' lo' hi' nn' ls' =>
            rw [at_mk] at hchild
            obtain ⟨_, _, _, _, a', cap', hcs', _, _⟩ := hchild
            subst hcs'
            generalize hX' : Nd.mk k' s' lo' hi' nn' ls' = ch at hchild' hcount hstep hcnt
            clear hcell hnodes hX' hch
            by_cases hp : p = 0
            · have hdp : ((p : Int) == 0) = true := by simp [hp]
              have Hrel := Lib.hid hrel
              have Hp := Lib.hid hp
              have Hful := Lib.hid hful
              have Hful2 := Lib.hid hful2
              clear hrel hp hstep hcnt hful hful2 hlen hpre hbel ih
              go_wp2_with (first | (refine wpList_load_node rfl _ rfl b (off + j * 9) _ rfl h9 ?_) | fail)
              gi_wp2
              go_ret
              rcases Hrel.out with ⟨q, hq, hp', hjq⟩ | ⟨_, q, hq, hjq⟩
              · have hle1 : left ≤ 1 + counts (ls.take j) := by have := Hp.out; omega
                refine .inl ⟨q, by rw [hq, Hful.out hle1], ?_, abides_still hJ hjq ((Below.refl _ _).alloc (Nat.le_refl _) _)⟩
                rw [Hp.out, show left - X.count = 0 from by have := Hful2.out; omega]; rfl
              · exact .inr ⟨by rw [Hp.out]; rfl, q, hq, abides_still hJx hjq ((Below.refl _ _).alloc (Nat.le_refl _) _)⟩
            · have hdp : ((p : Int) == 0) = false := by simp; omega
              rcases hrel with ⟨q, hq, hp', hjq⟩ | ⟨h0, _⟩
              rotate_left 1
              · exact absurd h0 hp
              have hql : q.length = 1 + counts (ls.take j) := by
                have h := congrArg List.length hq
                rw [hlen] at h
                simp only [nds, List.length_map] at h
                exact nums_len hp hp' h
              have hp1 : 1 ≤ p := Nat.pos_of_ne_zero hp
              have hp2 : p ≤ 100000 := nums_le hp' hle
              have hp3 : (pre ++ q).length + p ≤ N := by rw [List.length_append, hql]; exact nums_fit hp hp' hN
              have hcall := fun o : Obj => callsIn_wide.1 (ih ch hcount 1 _ (pre ++ q) (wr.alloc o) p hchild' (abides_still hJ hjq ((Below.refl _ _).alloc (Nat.le_refl _) _)) hp1 hp2 hp3)
              have Hq := Lib.hid hq
              have Hp := Lib.hid hp'
              have Hstep := Lib.hid hstep
              have Hcnt := Lib.hid hcnt
              have Hpre := Lib.hid hpre
              clear hp1 hp2 hp3 hp hp' hstep hcnt hful hful2 hlen hpre hbel ih hq hql hjq hchild' hcount
              go_wp2_with (first | (refine wpList_load_node rfl _ rfl b (off + j * 9) _ rfl h9 ?_) | (go_at_call 29; refine (hcall _).mono ?_; clear hcall; rintro e w3 (⟨q', hq', rfl, hj'⟩ | ⟨rfl, q', hq', hj'⟩)) | fail)
              · go_roundw
                case rel =>
                  refine ⟨j + 1, p - ch.count, rfl, by go_num, Nat.succ_le_of_lt hjn, .inl ⟨q ++ q', ?_, ?_, by rw [← List.append_assoc]; exact hj'⟩⟩
                  · rw [nds_append, Hq.out, hq', Hstep.out, Hp.out]
                  · exact nums_next Hcnt.out Hp.out
                case measure => simp [intOf]; omega
              · go_roundw
                case rel =>
                  refine ⟨j + 1, 0, rfl, by go_num, Nat.succ_le_of_lt hjn, .inr ⟨rfl, q ++ q', ?_, by rw [← List.append_assoc]; exact hj'⟩⟩
                  apply Hpre.out
                  rw [nds_append, Hq.out, Hstep.out, ← Hp.out]
                  exact (List.prefix_append_right_inj _).mpr hq'
                case measure => simp [intOf]; omega
        · obtain rfl : j = ls.length := by omega
          have hdj : decide ((ls.length : Int) < ls.length) = false := by simp
          have Hrel := Lib.hid hrel
          clear hrel hl ih
          go_wp2_with fail
          gi_wp2
          go_ret
          rcases Hrel.out with ⟨q, hq, hp, hjq⟩ | ⟨hp, q, hq, hjq⟩
          · refine .inl ⟨q, ?_, ?_, hjq⟩
            · rw [hq]
              have e := HX.out
              subst e
              exact fore_all (.mk k s lo hi nn ls) left
            · rw [hp, List.take_length, HXc.out]; rfl
          · exact .inr ⟨by rw [hp]; rfl, q, hq, hjq⟩
    · go_ret
      refine .inr ⟨rfl, [x0], ?_, hx2⟩
      rw [Hx0.out]; exact fore_prefix _ _ _
end Go.Proofs.Ytaanhijjhllckaa
namespace Go.Proofs.Ytaanhijjhllckaa
set_option maxRecDepth 100000
open Go.RowKit
/-- one node of the row; next: the number of the group that comes -/
def stepN (next : Nat) : Nd → Option Nat
  | .mk k s lo hi n l => if (blankN k s lo hi n && formedN k s lo hi l) = true then (if k = 5 then (if n = (next : Int) then some (next + 1) else none) else some next) else none
theorem stepN_mk (next : Nat) (k : Int) (s : BitVec 256) (lo hi n : Int) (l : List Nd) : stepN next (.mk k s lo hi n l) = if (blankN k s lo hi n && formedN k s lo hi l) = true then (if k = 5 then (if n = (next : Int) then some (next + 1) else none) else some next) else none := rfl
def foldN : List Nd → Nat → Option Nat
  | [], next => some next
  | x :: l, next => (stepN next x).bind (foldN l)
theorem foldN_append (l m : List Nd) (next : Nat) : foldN (l ++ m) next = (foldN l next).bind (foldN m) := by
  induction l generalizing next with
  | nil => rfl
  | cons x l ih =>
    show (stepN next x).bind (foldN (l ++ m)) = ((stepN next x).bind (foldN l)).bind (foldN m)
    cases stepN next x with
    | none => rfl
    | some y => exact ih y
theorem foldN_prefix {l m : List Nd} {next : Nat} (h : l <+: m) (hn : foldN l next = none) : foldN m next = none := by
  obtain ⟨r, rfl⟩ := h
  rw [foldN_append, hn]; rfl
/-- a node behind a node, by P5.1's own words -/
def formAll : List Nd → Nat → Option Nat
  | [], next => some next
  | x :: l, next => (x.form next).bind (formAll l)
def strictK (k : Int) (l : List Nd) : Bool := if k = 2 then l.all (fun y => pieceK y.kind) else if k = 3 then l.all (fun y => branchK y.kind) else if k = 4 then l.all (fun y => atomK y.kind) else true
theorem forms_strict (k : Int) (f : Int → Bool) (hf : ∀ c, f c = true → within k c = true) : ∀ (l : List Nd) (next : Nat), l.all (fun y => f y.kind) = true → forms k l next = formAll l next
  | [], next, _ => by rw [forms_nil]; rfl
  | x :: l, next, h => by
    rw [List.all_cons, Bool.and_eq_true] at h
    rw [forms_cons, if_pos (hf _ h.1)]
    show _ = (x.form next).bind (formAll l)
    cases x.form next with
    | none => rfl
    | some y => exact forms_strict k f hf l y h.2
theorem forms_none (k : Int) : ∀ (l : List Nd) (next : Nat) (c : Nd), c ∈ l → (within k c.kind = false ∨ ∀ nx, c.form nx = none) → forms k l next = none
  | [], _, _, h, _ => by simp at h
  | x :: l, next, c, h, hc => by
    rw [forms_cons]
    split
    · rename_i hw
      rcases List.mem_cons.mp h with rfl | h
      · rcases hc with hc | hc
        · rw [hc] at hw; cases hw
        · rw [hc]; rfl
      · cases x.form next with
        | none => rfl
        | some y => exact forms_none k l y c h hc
    · rfl
theorem form_kind (x : Nd) (h : x.kind ≠ 1 ∧ x.kind ≠ 2 ∧ x.kind ≠ 3 ∧ x.kind ≠ 4 ∧ x.kind ≠ 5 ∧ x.kind ≠ 6) (nx : Nat) : x.form nx = none := by
  cases x with
  | mk k s lo hi n l =>
    obtain ⟨h1, h2, h3, h4, h5, h6⟩ := (show k ≠ 1 ∧ k ≠ 2 ∧ k ≠ 3 ∧ k ≠ 4 ∧ k ≠ 5 ∧ k ≠ 6 from h)
    rw [form_mk, if_neg]
    simp [fieldsOk, h1, h2, h3, h4, h5, h6]
theorem forms_loose (k : Int) (f : Int → Bool) (hf : ∀ c, f c = false → within k c = false ∨ (c ≠ 1 ∧ c ≠ 2 ∧ c ≠ 3 ∧ c ≠ 4 ∧ c ≠ 5 ∧ c ≠ 6)) (l : List Nd) (next : Nat) (h : l.all (fun y => f y.kind) = false) : forms k l next = none := by
  rw [List.all_eq_false] at h
  obtain ⟨c, hc, hv⟩ := h
  refine forms_none k l next c hc ?_
  rcases hf c.kind (by simpa using hv) with h | h
  · exact .inl h
  · exact .inr (form_kind c h)
theorem forms_kids (k : Int) (l : List Nd) (next : Nat) : forms k l next = if strictK k l = true then formAll l next else none := by
  unfold strictK
  by_cases h2 : k = 2
  · subst h2
    rw [if_pos rfl]
    split
    · rename_i h; exact forms_strict 2 pieceK (fun c h => by simp only [pieceK, atomK, Bool.or_eq_true, beq_iff_eq] at h; simp [within]; omega) l next h
    · rename_i h
      exact forms_loose 2 pieceK (fun c h => by simp only [pieceK, atomK, Bool.or_eq_false_iff, beq_eq_false_iff_ne] at h; simp [within]; omega) l next (by simpa using h)
  rw [if_neg h2]
  by_cases h3 : k = 3
  · subst h3
    rw [if_pos rfl]
    split
    · rename_i h; exact forms_strict 3 branchK (fun c h => by simp only [branchK, pieceK, atomK, Bool.or_eq_true, beq_iff_eq] at h; simp [within]; omega) l next h
    · rename_i h
      exact forms_loose 3 branchK (fun c h => by simp only [branchK, pieceK, atomK, Bool.or_eq_false_iff, beq_eq_false_iff_ne] at h; simp [within]; omega) l next (by simpa using h)
  rw [if_neg h3]
  by_cases h4 : k = 4
  · subst h4
    rw [if_pos rfl]
    split
    · rename_i h; exact forms_strict 4 atomK (fun c h => by simp only [atomK, Bool.or_eq_true, beq_iff_eq] at h; simp [within]; omega) l next h
    · rename_i h
      exact forms_loose 4 atomK (fun c h => by simp only [atomK, Bool.or_eq_false_iff, beq_eq_false_iff_ne] at h; simp [within]; omega) l next (by simpa using h)
  rw [if_neg h4, if_pos rfl]
  exact forms_strict k (fun _ => true) (fun c _ => by simp [within, h2, h3, h4]) l next (by simp)
/-- P5.1's own words of a node, and the program's two -/
theorem fields_split (k : Int) (s : BitVec 256) (lo hi n : Int) (l : List Nd) (next : Nat) :
    (fieldsOk k s lo hi n l.length next && strictK k l) = (blankN k s lo hi n && formedN k s lo hi l && (if k = 5 then decide (n = (next : Int)) else true)) := by
  unfold fieldsOk strictK blankN formedN boundedN
  by_cases h1 : k = 1
  · subst h1; simp
  by_cases h2 : k = 2
  · subst h2; simp [Bool.and_assoc]
  by_cases h3 : k = 3
  · subst h3; simp [Bool.and_assoc]
  by_cases h4 : k = 4
  · subst h4
    simp [Bool.and_assoc]
    cases decide (l.length = 1) <;> simp [Bool.and_comm, Bool.and_left_comm]
  by_cases h5 : k = 5
  · subst h5; simp [Bool.and_assoc]
    rw [show (n == (next : Int)) = decide (n = (next : Int)) from by rw [Bool.eq_iff_iff]; simp]
  by_cases h6 : k = 6
  · subst h6; simp
  simp [h1, h2, h3, h4, h5, h6]
mutual
theorem fold_pre : ∀ (x : Nd) (next : Nat), foldN x.pre next = x.form next
  | .mk k s lo hi n l, next => by
    rw [pre_mk, form_mk]
    show (stepN next (.mk k s lo hi n l)).bind (foldN (pres l)) = _
    have hs := fields_split k s lo hi n l next
    rw [forms_kids]
    rw [stepN_mk]
    by_cases hb : (blankN k s lo hi n && formedN k s lo hi l) = true
    · rw [if_pos hb]
      rw [hb, Bool.true_and] at hs
      by_cases h5 : k = 5
      · rw [if_pos h5, if_pos h5]
        rw [if_pos h5] at hs
        by_cases hn : n = (next : Int)
        · rw [if_pos hn]
          rw [decide_eq_true hn, Bool.and_eq_true] at hs
          rw [if_pos hs.1, if_pos hs.2]
          exact fold_pres l _
        · rw [if_neg hn]
          rw [decide_eq_false hn] at hs
          split
          · rename_i h; rw [h, Bool.true_and] at hs; rw [if_neg (by rw [hs]; simp)]; rfl
          · rfl
      · rw [if_neg h5, if_neg h5]
        rw [if_neg h5, Bool.and_eq_true] at hs
        rw [if_pos hs.1, if_pos hs.2]
        exact fold_pres l _
    · rw [if_neg hb]
      rw [Bool.eq_false_iff.mpr hb, Bool.false_and] at hs
      split
      · rename_i h; rw [h, Bool.true_and] at hs; rw [if_neg (by rw [hs]; simp)]; rfl
      · rfl
theorem fold_pres : ∀ (l : List Nd) (next : Nat), foldN (pres l) next = formAll l next
  | [], next => by rw [pres_nil]; rfl
  | x :: l, next => by
    rw [pres_cons, foldN_append, fold_pre x next]
    show (x.form next).bind _ = (x.form next).bind (formAll l)
    congr 1
    funext y
    exact fold_pres l y
end
end Go.Proofs.Ytaanhijjhllckaa
namespace Go.Proofs.Ytaanhijjhllckaa
set_option maxRecDepth 100000
open Go.RowKit Go.Shelf

attribute [local go_sem] Oper.semAt_some

theorem nodes_held {W0 w0 : World} {x : Nd} {cs : List Value} (hat : Nd.at W0 x cs) (hb0 : Below W0.heap.size W0 w0) {Bx : Nat} (hBx : Bx < w0.heap.size) (h9 : Node9 w0 Bx 0 cs) :
    SeqHeld Try.prog 28 #[.pointer (some ⟨Bx, 0, none⟩)] (fun p : NV W0 => .agg p.1.2.toArray) W0.heap.size w0 (fun q => nds q = x.pre.take 100000) (fun q => nds q <+: x.pre.take 100000) 100000 := by
  intro l J Jx W hW hW2 hJ hJx hJb hJxb hY h0 m
  have hv := visit_in l W0 100000 W.heap.size J Jx hJ hJx (fun pre W' h => hb0.trans (hJb pre W' h)) (fun pre W' h => hb0.trans (hJxb pre W' h)) hY x.count x (Nat.le_refl _) 1 cs [] W 100000 hat h0 (by decide) (Nat.le_refl _) (by simp)
  have hv := callsIn_wide.1 hv
  have h9' : Node9 W Bx 0 cs := ⟨h9.1, fun q hq => by rw [hW2.cell (p := ⟨Bx, 0 + q, none⟩) hBx]; exact h9.2 q hq⟩
  refine callsIn_of_wp Try.func28 rfl trivial ?_ rfl
  simp only [Try.ntmps28, List.size_toArray, List.length_cons, List.length_nil, Nat.reduceAdd, Nat.reduceSub, Array.replicate_succ, Array.replicate_zero, List.push_toArray, List.append_toArray, List.nil_append, List.cons_append]
  refine wpIn_wide.2 ?_
  go_wp2_with (first | (refine wpList_load_node rfl _ rfl Bx 0 cs rfl h9' ?_) | (go_at_call 29; refine hv.mono ?_; clear hv; rintro e w3 (⟨q, hq, rfl, hj⟩ | ⟨rfl, q, hq, hj⟩)) | fail)
  · go_end0
    exact ⟨⟨_, rfl⟩, .inl ⟨q, hq, hj⟩⟩
  · go_end0
    exact ⟨⟨_, rfl⟩, .inr ⟨q, hq, hj⟩⟩
/-- tree.nodes: the node lies in a block of its own -/
theorem nodes_walk {x : Nd} {cs : List Value} {w : World} (hat : Nd.at w x cs) (w' : World) :
    Calls Try.prog 21 #[.agg cs.toArray] w' fun e w'' => e = .returned (.func (.func 28) #[] #[.pointer (some ⟨w'.heap.size, 0, none⟩)]) ∧ w'' = w'.alloc (.cells cs.toArray 27) := by
  cases x with
  | mk k s lo hi n l =>
    rw [at_mk] at hat
    obtain ⟨_, _, _, _, a, cap, rfl, _, _⟩ := hat
    go_enter Try.func21, Try.ntmps21
    go_wp2_with fail
    go_ret
    exact ⟨rfl, rfl⟩
/-- a variable in a block of its own -/
def Var (W : World) (b : Nat) (v : Value) (t : TypeId) : Prop := W.heap[b]? = some (.cells #[v] t)
theorem Var.cell {W : World} {b : Nat} {v : Value} {t : TypeId} (h : Var W b v t) : W.cell? ⟨b, 0, none⟩ = some v ∧ W.frozen? ⟨b, 0, none⟩ = false := by
  unfold Var at h
  constructor <;> simp [World.cell?, World.frozen?, h]
theorem Var.lt {W : World} {b : Nat} {v : Value} {t : TypeId} (h : Var W b v t) : b < W.heap.size := (Array.getElem?_eq_some_iff.1 h).1
theorem Var.set {W : World} {b : Nat} {v : Value} {t : TypeId} (h : Var W b v t) (u : Value) : Var (W.setCell ⟨b, 0, none⟩ u) b u t := by
  unfold Var at h ⊢
  obtain ⟨hlt, hk⟩ := Array.getElem?_eq_some_iff.1 h
  show (W.heap.modify b _)[b]? = _
  rw [Array.getElem?_eq_getElem (by rw [Array.size_modify]; exact hlt), Array.getElem_modify_self, hk]
  simp
theorem Var.new (W : World) (v : Value) (t : TypeId) : Var (W.alloc (.cells #[v] t)) W.heap.size v t := World.alloc_heap_new W _
theorem Var.alloc {W : World} {b : Nat} {v : Value} {t : TypeId} (h : Var W b v t) (o : Obj) : Var (W.alloc o) b v t := (Below.heap_alloc W o b h.lt).trans h
theorem Var.own (B b : Nat) (v : Value) (t : TypeId) : OwnFrom B (fun (_ : Unit) W => Var W b v t) := ownFrom_block B b _ rfl
set_option maxRecDepth 100000 in
set_option maxHeartbeats 2000000 in
theorem size_walk {x : Nd} {cs : List Value} {w : World} (hat : Nd.at w x cs) :
    Calls Try.prog 12 #[.agg cs.toArray] w fun e w' => e = .returned (.int .i64 (sizeOfN x : Int)) ∧ Below w.heap.size w w' := by
  have hcs : ∃ k s lo hi n a len cap, cs = [.int .i64 k, .int .u64 (word s 0), .int .u64 (word s 1), .int .u64 (word s 2), .int .u64 (word s 3), .int .i64 lo, .int .i64 hi, .int .i64 n, .slice a len cap] := by
    cases x with
    | mk k s lo hi n l =>
      rw [at_mk] at hat
      obtain ⟨_, _, _, _, a, cap, hcs, _, _⟩ := hat
      exact ⟨_, _, _, _, _, _, _, _, hcs⟩
  have hno := fun w' => (callsIn_wide (n := 2)).2 (nodes_walk hat w')
  obtain ⟨k, s, lo, hi, n, a, len, cap, hcs⟩ := hcs
  obtain ⟨w0, hw0⟩ : ∃ w0, w0 = ((w.alloc (.cells cs.toArray 27)).alloc (.cells #[.int .i64 0] 3)).alloc (.cells cs.toArray 27) := ⟨_, rfl⟩
  have hs0 : w0.heap.size = w.heap.size + 3 := by rw [hw0]; simp
  have hb0 : Below w.heap.size w w0 := by
    rw [hw0]
    exact (((Below.refl _ _).alloc (Nat.le_refl _) _).alloc (by simp) _).alloc (by simp; omega) _
  have h9 : Node9 w0 (w.heap.size + 1 + 1) 0 cs := by
    have h := World.alloc_heap_new ((w.alloc (.cells cs.toArray 27)).alloc (.cells #[.int .i64 0] 3)) (.cells cs.toArray 27)
    rw [← hw0] at h
    simp only [World.size_alloc] at h
    refine ⟨by rw [hcs]; rfl, fun q hq => ?_⟩
    simp [World.cell?, h]
  have hvar : Var w0 (w.heap.size + 1) (.int .i64 0) 3 := by
    rw [hw0]
    have h := Var.new (w.alloc (.cells cs.toArray 27)) (.int .i64 0) 3
    rw [World.size_alloc] at h
    exact h.alloc _
  have hheld := nodes_held hat hb0 (Bx := w.heap.size + 1 + 1) (by omega) h9
  refine (callsIn_wide (n := 3)).1 ?_
  refine callsIn_of_wp_marks Try.func12 rfl trivial ?_ rfl
  subst hcs
  simp only [Try.ntmps12, List.size_toArray, List.length_cons, List.length_nil, Nat.reduceAdd, Nat.reduceSub, Array.replicate_succ, Array.replicate_zero, List.push_toArray, List.append_toArray, List.nil_append, List.cons_append]
  gi_wp2_with ((try refine ⟨trivial, ?_⟩); gi_at_call 21; refine (hno _).mono ?_; clear hno; rintro e w' ⟨rfl, rfl⟩)
  rw [← hw0]
  clear hw0 h9 hat
  refine wp_range_held (w := w0) rfl (enters_of Try.func28 (by kernel_rfl) rfl) hheld hb0.size (Below.refl _ _)
    (fun pre W => Var W (w.heap.size + 1) (.int .i64 (pre.length : Int)) 3 ∧ Below w.heap.size w0 W) (fun _ _ _ => False)
    (fun q A B row hs hg hr => ⟨Var.own _ _ _ _ () A B row hs.1 hg hr, ownFrom_below (β := Unit) hb0.size hb0.size () A B row hs.2 hg hr⟩) (fun _ _ _ _ _ h _ _ => h)
    (fun _ _ h => h.2) (fun _ _ _ h => h.elim) ⟨hvar, Below.refl _ _⟩ ?turn ?done ?stop
  case turn =>
    intro l m pre x W o K hi ho hlen hlt hK
    gi_wp2
    refine hK _ _ (KeepsFrom.refl _ _) fun W3 hto hs3 => ?_
    have v3 := hto _ (Var.own _ _ _ _) (hi.1.alloc o)
    have b3 := hto _ (ownFrom_below (β := Unit) hb0.size hb0.size) (hi.2.alloc (by omega) o)
    have k3 := hto _ (ownFrom_block _ _ _ ho) (World.alloc_heap_new W o)
    have hlt1 := hi.1.lt
    obtain ⟨c3, f3⟩ := v3.cell
    clear hK hto hi hheld
    have B3 := Lib.hid b3
    have K3 := Lib.hid k3
    have V3 := Lib.hid v3
    clear b3 k3 v3
    gi_wp2
    refine ⟨⟨(KeepsOthers.setCell _ _ _).from _, (Below.heap_setCell _ _ _ _ (by show W.heap.size ≠ w.heap.size + 1; omega)).trans K3.out⟩, ?_, B3.out.setCell (p := ⟨w.heap.size + 1, 0, none⟩) (Nat.le_succ _) _⟩
    have h := V3.out.set (.int .i64 ((pre.length : Int) + 1))
    rw [show (((pre ++ [x]).length : Nat) : Int) = (pre.length : Int) + 1 from by simp]
    exact h
  case done =>
    rintro D ys W hD hS ⟨hv, hb⟩ hk
    obtain ⟨c3, f3⟩ := hv.cell
    have hlen : (ys.length : Int) = (sizeOfN x : Int) := by
      have h := congrArg List.length hS
      rw [List.length_take, Nd.pre_length] at h
      simp only [nds, List.length_map] at h
      unfold sizeOfN
      omega
    have Hlen := Lib.hid hlen
    clear hlen hS
    gi_wp2
    refine ⟨by simp, .inl ⟨_, _, rfl, run_takeDeferred hk, ?_⟩⟩
    refine ⟨_, results_tmp rfl _ _ _, ?_, (hb0.trans hb).trans (belowK_b (w := w) (Nat.le_refl _) W D _ _ (by omega) hk rfl rfl)⟩
    rw [← Hlen.out]
    rfl
  case stop =>
    rintro D c pre W _ _ h _
    exact h.elim
end Go.Proofs.Ytaanhijjhllckaa
namespace Go.Proofs.Ytaanhijjhllckaa
set_option maxRecDepth 100000
open Go.RowKit
theorem deeps_cons (x : Nd) (l : List Nd) : deeps (x :: l) = max x.deep (deeps l) := by rw [deeps]
theorem deeps_nil : deeps [] = 0 := by rw [deeps]
theorem deeps_append (l m : List Nd) : deeps (l ++ m) = max (deeps l) (deeps m) := by
  induction l with
  | nil => rw [deeps_nil, List.nil_append]; omega
  | cons x l ih => rw [List.cons_append, deeps_cons, deeps_cons, ih]; omega
theorem deeps_take_succ (l : List Nd) (j : Nat) (hj : j < l.length) : deeps (l.take (j + 1)) = max (deeps (l.take j)) l[j].deep := by
  rw [List.take_succ_eq_append_getElem hj, deeps_append, deeps_cons, deeps_nil]; omega
theorem deeps_take_le (l : List Nd) (j : Nat) : deeps (l.take j) ≤ deeps l := by
  have h := deeps_append (l.take j) (l.drop j)
  rw [List.take_append_drop] at h
  omega
theorem dnum_stop {d t D f : Nat} (hd : d = min (1 + t) (f + 1)) (h : d = f + 1) (ht : t ≤ D) : f + 1 = min (1 + D) (f + 1) := by omega
theorem dnum_next {d t g c t' : Nat} (hd : d = min (1 + t) (g + 1 + 1)) (hne : ¬ d = g + 1 + 1) (ht : t' = max t c) : max d (1 + min c (g + 1)) = min (1 + t') (g + 1 + 1) := by omega
theorem dnum_le {d t f : Nat} (hd : d = min (1 + t) (f + 1)) : 1 ≤ d ∧ d ≤ f + 1 := by omega
theorem dnum_zero {d t : Nat} (hd : d = min (1 + t) (0 + 1)) : d = 0 + 1 := by omega
set_option maxRecDepth 100000 in
set_option maxHeartbeats 2000000 in
theorem depth_any : ∀ (f : Nat) (x : Nd) (cs : List Value) (w : World), f < 100 → Nd.at w x cs →
    Calls Try.prog 26 #[.agg cs.toArray, .int .i64 ((f + 1 : Nat) : Int)] w fun e w' => e = .returned (.int .i64 ((min x.deep (f + 1) : Nat) : Int)) ∧ Below w.heap.size w w' := by
  intro f
  induction f using Nat.strongRecOn with
  | _ f ih =>
    intro x cs w hf hat
    obtain ⟨s, lo, hi, n, a, cap, hx, hcs⟩ := at_cells hat
    rw [hx] at hat
    generalize hls : x.nodes = l at hat hcs hx
    generalize x.kind = k at hat hcs hx
    rw [at_mk] at hat
    obtain ⟨_, _, _, _, a', cap', hcs', hmax, hl⟩ := hat
    rw [hcs] at hcs'
    have hsl : Value.slice a l.length cap = .slice a' l.length cap' := by simpa using hcs'
    cases hsl
    have hxd : x.deep = 1 + deeps l := by rw [hx, deep_mk]
    have hmx : l.length ≤ 9223372036854775807 := Nat.le_trans hmax (by decide)
    rw [hxd]
    clear hxd hcs' hx hls
    subst hcs
    have hsub : ((f + 1 : Nat) : Int) - 1 = (f : Int) := by omega
    generalize hF : ((f + 1 : Nat) : Int) = F at hsub ⊢
    have HF := Lib.hid hF
    have hFb : F ≤ 1000 := by omega
    have hF0 : 1 ≤ F := by omega
    clear hF
    go_enter Try.func26, Try.ntmps26
    go_wp2_with fail
    go_loopw [5, 11] (fun v i wr => ∃ (j d : Nat), v = .int .i64 d ∧ i = .int .i64 j ∧ j ≤ l.length ∧ Hid (d = min (1 + deeps (l.take j)) (f + 1)) ∧ Below w.heap.size w wr) (fun _ i _ => l.length - (intOf i).toNat)
    case atStart =>
      refine ⟨0, 1, rfl, rfl, Nat.zero_le _, ?_, (Below.refl _ _).alloc (Nat.le_refl _) _⟩
      show _ = _
      rw [List.take_zero, deeps_nil]; omega
    case round =>
      obtain ⟨j, d, rfl, rfl, hjl, hd, hB⟩ := hrel
      by_cases hjn : j < l.length
      · have hdj : decide ((j : Int) < l.length) = true := by simp; omega
        rcases hl with hl | ⟨b, off, rfl, hcap, hbw, hnodes⟩
        · omega
        obtain ⟨cs, hcs, hcell, hchild⟩ := nodes_get w b l off hnodes j hjn
        have h9 : Node9 wr b (off + j * 9) cs := ⟨hcs, fun q hq => by rw [hB.cell (p := ⟨b, off + j * 9 + q, none⟩) hbw]; exact hcell q hq⟩
        obtain ⟨s', lo', hi', n', a2, cap2, _, hcs'⟩ := at_cells hchild
        have hB2 : ∀ o, Below w.heap.size w (wr.alloc o) := fun o => hB.alloc hB.size o
        have hcall := fun (g : Nat) (hg : f = g + 1) o => ih g (by omega) l[j] cs (wr.alloc o) (by omega) (Nd.at_below (hB2 o) (Nat.le_refl _) _ _ hchild)
        have hstep := deeps_take_succ l j hjn
        have hle := deeps_take_le l j
        generalize l[j].kind = k' at hcs'
        generalize l[j].nodes.length = len' at hcs'
        generalize hch : l[j].deep = ch at hcall hstep
        subst hcs'
        have Hstep := Lib.hid hstep
        have Hle := Lib.hid hle
        clear hch hstep hle hchild hcell hnodes ih
        by_cases hdm : d = f + 1
        · have e1 : ((d : Int) == F) = true := by rw [← HF.out, hdm]; simp
          have Hdm := Lib.hid hdm
          clear hdm hcall
          go_wp2_with (first | (refine wpList_load_node rfl _ rfl b (off + j * 9) _ rfl h9 ?_) | fail)
          go_ret
          refine ⟨?_, hB2 _⟩
          rw [← dnum_stop hd.out Hdm.out Hle.out, ← Hdm.out]
          rfl
        · obtain ⟨g, hg⟩ : ∃ g, f = g + 1 := by
            cases f with
            | zero => exact absurd (dnum_zero hd.out) hdm
            | succ g => exact ⟨g, rfl⟩
          have hcall := hcall g hg
          rw [← hg] at hcall
          have Hg := Lib.hid hg
          clear hg
          have e1 : ((d : Int) == F) = false := by rw [← HF.out]; simp; omega
          have Hdm := Lib.hid hdm
          have hd1 := dnum_le hd.out
          have hm1 : ((min ch f : Nat) : Int) ≤ 1000 := by omega
          have hm0 : 0 ≤ ((min ch f : Nat) : Int) := by omega
          generalize hM : ((min ch f : Nat) : Int) = M at hm1 hm0 hcall
          have HM := Lib.hid hM
          have hd2 : (d : Int) ≤ 1000 := by omega
          clear hM hd1 hdm
          go_wp2_with (first | (refine wpList_load_node rfl _ rfl b (off + j * 9) _ rfl h9 ?_) | (go_at_call 26; refine (hcall _).mono ?_; clear hcall; rintro e w3 ⟨rfl, hb3⟩) | fail)
          go_roundw
          case rel =>
            refine ⟨j + 1, max d (1 + min ch f), ?_, by go_num, Nat.succ_le_of_lt hjn, ?_, (hB2 _).trans (hb3.mono (by have := hB.size; simp; omega))⟩
            · have h := HM.out
              refine congrArg (Value.int .i64) ?_
              split <;> omega
            · have h1 := hd.out
              have h2 := Hdm.out
              have h3 := Hg.out
              subst h3
              exact dnum_next h1 h2 Hstep.out
          case measure => simp [intOf]; omega
      · obtain rfl : j = l.length := by omega
        have hdj : decide ((l.length : Int) < l.length) = false := by simp
        clear hl ih
        go_wp2_with fail
        go_ret
        refine ⟨?_, hB⟩
        have h := hd.out
        rw [List.take_length] at h
        rw [h]; rfl
set_option maxHeartbeats 1000000 in
theorem Depth_any {x : Nd} {cs : List Value} {w : World} (hat : Nd.at w x cs) :
    Calls Try.prog 14 #[.agg cs.toArray] w fun e w' => e = .returned (.int .i64 (depthOfN x : Int)) ∧ Below w.heap.size w w' := by
  have hc := fun o => depth_any 64 x cs (w.alloc o) (by decide) (Nd.at_below ((Below.refl w.heap.size w).alloc (Nat.le_refl _) o) (Nat.le_refl _) _ _ hat)
  obtain ⟨s, lo, hi, n, a, cap, _, rfl⟩ := at_cells hat
  clear hat
  unfold depthOfN
  generalize min x.deep 65 = D at *
  generalize x.kind = k at *
  generalize x.nodes.length = len at *
  go_enter Try.func14, Try.ntmps14
  go_wp2_with (go_at_call 26; refine (hc _).mono ?_; clear hc; rintro e w2 ⟨rfl, hb⟩)
  go_ret
  exact ⟨rfl, box_below hb⟩
end Go.Proofs.Ytaanhijjhllckaa
namespace Go.Proofs.Ytaanhijjhllckaa
set_option maxRecDepth 100000
open Go.RowKit Go.Shelf

attribute [local go_sem] Oper.semAt_some

theorem Var.below {B : Nat} {W W' : World} {b : Nat} {v : Value} {t : TypeId} (h : Var W b v t) (hb : Below B W W') (hlt : b < B) : Var W' b v t := (hb.block b hlt).trans h
theorem block_below {B : Nat} {W W' : World} {b : Nat} {o : Obj} (h : W.heap[b]? = some o) (hb : Below B W W') (hlt : b < B) : W'.heap[b]? = some o := (hb.block b hlt).trans h
theorem keepsFrom_below {B : Nat} {W W' : World} (h : Below W.heap.size W W') : KeepsFrom B W W' := ⟨h.size, fun k _ _ hk _ => (h.block k (Array.getElem?_eq_some_iff.1 hk).1).trans hk⟩
/-- what stays through a round of Good: the answer, the pattern, the number, and the two blocks of the round -/
def RoundF (n₀ : Nat) (w0 : World) (bR bP g bo bx : Nat) (P o X : Obj) (v : Value) (W : World) : Prop :=
  Var W bR (.bool false) 4 ∧ W.heap[bP]? = some P ∧ Var W g v 3 ∧ W.heap[bo]? = some o ∧ W.heap[bx]? = some X ∧ Below n₀ w0 W
theorem block_lt {W : World} {b : Nat} {o : Obj} (h : W.heap[b]? = some o) : b < W.heap.size := (Array.getElem?_eq_some_iff.1 h).1
theorem RoundF.still {n₀ : Nat} {w0 : World} {bR bP g bo bx : Nat} {P o X : Obj} {v : Value} {W W' : World} (h : RoundF n₀ w0 bR bP g bo bx P o X v W) (hn : n₀ ≤ W.heap.size) (hb : Below W.heap.size W W') : RoundF n₀ w0 bR bP g bo bx P o X v W' :=
  ⟨h.1.below hb h.1.lt, block_below h.2.1 hb (block_lt h.2.1), h.2.2.1.below hb h.2.2.1.lt, block_below h.2.2.2.1 hb (block_lt h.2.2.2.1), block_below h.2.2.2.2.1 hb (block_lt h.2.2.2.2.1), h.2.2.2.2.2.trans (hb.mono hn)⟩
def GoodI (w w0 : World) (g : Nat) (P : Obj) (pre : List (NV w)) (W : World) : Prop :=
  Var W (w.heap.size + 1) (.bool false) 4 ∧ W.heap[w.heap.size]? = some P ∧ (∃ nx : Nat, nx ≤ pre.length ∧ foldN (nds pre) 1 = some (nx + 1) ∧ Var W g (.int .i64 (nx : Int)) 3) ∧ Below w.heap.size w0 W
def GoodX (w w0 : World) (c : Code) (pre : List (NV w)) (W : World) : Prop :=
  c = .ret ∧ foldN (nds pre) 1 = none ∧ Var W (w.heap.size + 1) (.bool false) 4 ∧ Below w.heap.size w0 W
theorem GoodI.own {w w0 : World} {g : Nat} {P : Obj} (hP : P.isCells = true) (hw : w.heap.size ≤ w0.heap.size) : OwnFrom w0.heap.size (GoodI w w0 g P) := by
  rintro q A B row ⟨h1, h2, ⟨nx, h3, h4, h5⟩, h6⟩ hg hr
  exact ⟨Var.own _ _ _ _ () A B row h1 hg hr, ownFrom_block _ _ _ hP () A B row h2 hg hr, ⟨nx, h3, h4, Var.own _ _ _ _ () A B row h5 hg hr⟩, ownFrom_below (β := Unit) hw hw () A B row h6 hg hr⟩
theorem GoodX.own {w w0 : World} (hw : w.heap.size ≤ w0.heap.size) (c : Code) : OwnFrom w0.heap.size (GoodX w w0 c) := by
  rintro q A B row ⟨h1, h2, h3, h4⟩ hg hr
  exact ⟨h1, h2, Var.own _ _ _ _ () A B row h3 hg hr, ownFrom_below (β := Unit) hw hw () A B row h4 hg hr⟩
theorem RoundF.own {n₀ B : Nat} {w0 : World} {bR bP g bo bx : Nat} {P o X : Obj} {v : Value} (hP : P.isCells = true) (ho : o.isCells = true) (hX : X.isCells = true) (hn : n₀ ≤ w0.heap.size) (hB : n₀ ≤ B) : OwnFrom B (fun (_ : Unit) W => RoundF n₀ w0 bR bP g bo bx P o X v W) := by
  rintro q A B row ⟨h1, h2, h3, h4, h5, h6⟩ hg hr
  exact ⟨Var.own _ _ _ _ () A B row h1 hg hr, ownFrom_block _ _ _ hP () A B row h2 hg hr, Var.own _ _ _ _ () A B row h3 hg hr, ownFrom_block _ _ _ ho () A B row h4 hg hr, ownFrom_block _ _ _ hX () A B row h5 hg hr, ownFrom_below (β := Unit) hn hB () A B row h6 hg hr⟩
theorem RoundF.start {n₀ : Nat} {w0 : World} {bR bP g : Nat} {P : Obj} {v : Value} {W : World} (h1 : Var W bR (.bool false) 4) (h2 : W.heap[bP]? = some P) (h3 : Var W g v 3) (hb : Below n₀ w0 W) (hn : n₀ ≤ W.heap.size) (o X : Obj) :
    RoundF n₀ w0 bR bP g W.heap.size (W.heap.size + 1) P o X v ((W.alloc o).alloc X) := by
  have hb1 : Below W.heap.size W (W.alloc o) := (Below.refl _ _).alloc (Nat.le_refl _) _
  have hb2 : Below W.heap.size W ((W.alloc o).alloc X) := hb1.alloc (by simp) _
  refine ⟨h1.below hb2 h1.lt, block_below h2 hb2 (block_lt h2), h3.below hb2 h3.lt, (Below.heap_alloc _ _ _ (by simp)).trans (World.alloc_heap_new W o), ?_, hb.trans (hb2.mono hn)⟩
  have h := World.alloc_heap_new (W.alloc o) X
  rw [World.size_alloc] at h; exact h
/-- a round of Good leaves with 'no' -/
theorem stop_post {w w0 W3 W5 : World} {bP g bo bx B : Nat} {P o X : Obj} {v : Value} {pre : List (NV w)} (h5 : RoundF w.heap.size w0 (w.heap.size + 1) bP g bo bx P o X v W5) (hk : KeepsFrom B W3 W5) (hnone : foldN (nds pre) 1 = none) (hne : bo ≠ w.heap.size + 1) :
    (KeepsFrom B W3 (W5.setCell ⟨w.heap.size + 1, 0, none⟩ (.bool false)) ∧ (W5.setCell ⟨w.heap.size + 1, 0, none⟩ (.bool false)).heap[bo]? = some o) ∧ GoodX w w0 .ret pre (W5.setCell ⟨w.heap.size + 1, 0, none⟩ (.bool false)) :=
  ⟨⟨hk.trans ((KeepsOthers.setCell _ _ _).from _), (Below.heap_setCell _ _ _ _ hne).trans h5.2.2.2.1⟩, rfl, hnone, h5.1.set _, h5.2.2.2.2.2.setCell (p := ⟨w.heap.size + 1, 0, none⟩) (Nat.le_succ _) _⟩
/-- a round of Good goes on -/
theorem next_post {w w0 W3 W5 : World} {g bo bx B : Nat} {P o X : Obj} {nx : Nat} {pre : List (NV w)} (h5 : RoundF w.heap.size w0 (w.heap.size + 1) w.heap.size g bo bx P o X (.int .i64 (nx : Int)) W5) (hk : KeepsFrom B W3 W5) (hle : nx ≤ pre.length) (hf : foldN (nds pre) 1 = some (nx + 1)) :
    (KeepsFrom B W3 W5 ∧ W5.heap[bo]? = some o) ∧ GoodI w w0 g P pre W5 :=
  ⟨⟨hk, h5.2.2.2.1⟩, h5.1, h5.2.1, ⟨nx, hle, hf, h5.2.2.1⟩, h5.2.2.2.2.2⟩
/-- the number goes up -/
theorem RoundF.up {n₀ : Nat} {w0 : World} {bR bP g bo bx : Nat} {P o X : Obj} {v : Value} {W : World} (h : RoundF n₀ w0 bR bP g bo bx P o X v W) (h1 : bR ≠ g) (h2 : bP ≠ g) (h3 : bo ≠ g) (h4 : bx ≠ g) (hn : n₀ ≤ g) (u : Value) :
    RoundF n₀ w0 bR bP g bo bx P o X u (W.setCell ⟨g, 0, none⟩ u) :=
  ⟨(Below.heap_setCell _ _ _ _ h1).trans h.1, (Below.heap_setCell _ _ _ _ h2).trans h.2.1, h.2.2.1.set u, (Below.heap_setCell _ _ _ _ h3).trans h.2.2.2.1, (Below.heap_setCell _ _ _ _ h4).trans h.2.2.2.2.1, h.2.2.2.2.2.setCell (p := ⟨g, 0, none⟩) hn _⟩
theorem foldN_snoc {l : List Nd} {next nx : Nat} (h : foldN l next = some nx) (x : Nd) : foldN (l ++ [x]) next = stepN nx x := by
  rw [foldN_append, h]
  show (stepN nx x).bind (foldN []) = _
  cases stepN nx x <;> rfl
theorem cells_at {W : World} {b : Nat} {vs : Array Value} {t : TypeId} (h : W.heap[b]? = some (.cells vs t)) (q : Nat) : W.cell? ⟨b, q, none⟩ = vs[q]? := by simp [World.cell?, h]
/-- the cells of a pattern -/
def patCells (st en : Bool) (cs : List Value) (gr : Int) : List Value := .bool st :: .bool en :: (cs ++ [.int .i64 gr])
theorem good_deep {x : Nd} {gr : Int} (h : 2000 < sizeOfN x ∨ 64 < depthOfN x) : goodP x gr = false := by
  unfold sizeOfN depthOfN at h
  unfold goodP
  by_cases h1 : x.count ≤ 2000
  · rw [decide_eq_false (show ¬ x.deep ≤ 64 from by omega), Bool.and_false, Bool.false_and]
  · rw [decide_eq_false h1, Bool.false_and, Bool.false_and]
theorem good_fold {x : Nd} {gr : Int} (h1 : ¬ 2000 < sizeOfN x) (h2 : ¬ 64 < depthOfN x) : goodP x gr = (match foldN x.pre 1 with | some m => gr == (m : Int) - 1 && decide (gr ≤ 32) | none => false) ∧ x.pre.take 100000 = x.pre := by
  unfold sizeOfN at h1
  unfold depthOfN at h2
  refine ⟨?_, List.take_of_length_le (by rw [Nd.pre_length]; omega)⟩
  unfold goodP
  rw [decide_eq_true (show x.count ≤ 2000 from by omega), decide_eq_true (show x.deep ≤ 64 from by omega), fold_pre]
  rfl
set_option maxRecDepth 100000 in
set_option maxHeartbeats 4000000 in
theorem good_walk {x : Nd} {cs : List Value} {w : World} (st en : Bool) (gr : Int) (hat : Nd.at w x cs) :
    Calls Try.prog 11 #[.agg (patCells st en cs gr).toArray] w fun e w' => e = .returned (.bool (goodP x gr)) ∧ Below w.heap.size w w' := by
  have hcs := at_cells hat
  obtain ⟨s, lo, hi, n, a, cap, _, hcs⟩ := hcs
  generalize hk : x.kind = k at hcs
  generalize hlen : x.nodes.length = len at hcs
  clear hk hlen
  have hpc : patCells st en cs gr = [.bool st, .bool en, .int .i64 k, .int .u64 (word s 0), .int .u64 (word s 1), .int .u64 (word s 2), .int .u64 (word s 3), .int .i64 lo, .int .i64 hi, .int .i64 n, .slice a len cap, .int .i64 gr] := by rw [hcs]; rfl
  rw [hpc]
  clear hpc
  -- the world behind the two boxes
  obtain ⟨wA, hwA⟩ : ∃ wA, wA = ((w.alloc (.cells #[.bool st, .bool en, .int .i64 k, .int .u64 (word s 0), .int .u64 (word s 1), .int .u64 (word s 2), .int .u64 (word s 3), .int .i64 lo, .int .i64 hi, .int .i64 n, .slice a len cap, .int .i64 gr] 29)).alloc (.cells #[.bool false] 4)) := ⟨_, rfl⟩
  have hsA : wA.heap.size = w.heap.size + 2 := by rw [hwA]; simp
  have hbA : Below w.heap.size w wA := by rw [hwA]; exact ((Below.refl _ _).alloc (Nat.le_refl _) _).alloc (by simp) _
  have hpA : wA.heap[w.heap.size]? = some (.cells #[.bool st, .bool en, .int .i64 k, .int .u64 (word s 0), .int .u64 (word s 1), .int .u64 (word s 2), .int .u64 (word s 3), .int .i64 lo, .int .i64 hi, .int .i64 n, .slice a len cap, .int .i64 gr] 29) := by
    rw [hwA]; exact (Below.heap_alloc _ _ _ (by simp)).trans (World.alloc_heap_new w _)
  have hrA : Var wA (w.heap.size + 1) (.bool false) 4 := by
    rw [hwA]
    have h := Var.new (w.alloc (.cells #[.bool st, .bool en, .int .i64 k, .int .u64 (word s 0), .int .u64 (word s 1), .int .u64 (word s 2), .int .u64 (word s 3), .int .i64 lo, .int .i64 hi, .int .i64 n, .slice a len cap, .int .i64 gr] 29)) (.bool false) 4
    rw [World.size_alloc] at h; exact h
  have hsz := size_walk (Nd.at_below hbA (Nat.le_refl _) _ _ hat)
  have hdp := fun (w1 : World) (h1 : Below wA.heap.size wA w1) => Depth_any (Nd.at_below (hbA.trans (h1.mono hbA.size)) (Nat.le_refl _) _ _ hat)
  have hsz2 := hsz.mono (R' := fun e w1 => e = .returned (.int .i64 (sizeOfN x : Int)) ∧ Below wA.heap.size wA w1 ∧ (∀ q, w1.cell? ⟨w.heap.size, q, none⟩ = (#[.bool st, .bool en, .int .i64 k, .int .u64 (word s 0), .int .u64 (word s 1), .int .u64 (word s 2), .int .u64 (word s 3), .int .i64 lo, .int .i64 hi, .int .i64 n, .slice a len cap, .int .i64 gr] : Array Value)[q]?) ∧ w1.cell? ⟨w.heap.size + 1, 0, none⟩ = some (.bool false) ∧ w1.frozen? ⟨w.heap.size + 1, 0, none⟩ = false)
    (fun e w1 h => ⟨h.1, h.2, cells_at (block_below hpA h.2 (by omega)), (hrA.below h.2 (by omega)).cell.1, (hrA.below h.2 (by omega)).cell.2⟩)
  have hszI := (callsIn_wide (n := 2)).2 hsz2
  clear hsz hsz2
  have hdpI := fun (w1 : World) (h1 : Below wA.heap.size wA w1) => (callsIn_wide (n := 2)).2 ((hdp w1 h1).mono (R' := fun e w2 => e = .returned (.int .i64 (depthOfN x : Int)) ∧ Below wA.heap.size wA w2 ∧ (∀ q, w2.cell? ⟨w.heap.size, q, none⟩ = (#[.bool st, .bool en, .int .i64 k, .int .u64 (word s 0), .int .u64 (word s 1), .int .u64 (word s 2), .int .u64 (word s 3), .int .i64 lo, .int .i64 hi, .int .i64 n, .slice a len cap, .int .i64 gr] : Array Value)[q]?) ∧ w2.cell? ⟨w.heap.size + 1, 0, none⟩ = some (.bool false) ∧ w2.frozen? ⟨w.heap.size + 1, 0, none⟩ = false)
    (fun e w2 h => ⟨h.1, h1.trans (h.2.mono h1.size), cells_at (block_below hpA (h1.trans (h.2.mono h1.size)) (by omega)), (hrA.below (h1.trans (h.2.mono h1.size)) (by omega)).cell.1, (hrA.below (h1.trans (h.2.mono h1.size)) (by omega)).cell.2⟩))
  clear hdp
  rw [hcs] at hszI hdpI
  generalize hRs : (fun (e : Ending) (w1 : World) => e = .returned (.int .i64 (sizeOfN x : Int)) ∧ Below wA.heap.size wA w1 ∧ _) = Rs at hszI
  rw [hwA] at hszI
  subst hRs
  have hgd := fun h => good_deep (x := x) (gr := gr) h
  have hgf := fun h1 h2 => good_fold (x := x) (gr := gr) h1 h2
  have hsn : 0 ≤ (sizeOfN x : Int) := by omega
  have hdn : 0 ≤ (depthOfN x : Int) := by omega
  have hs2 : decide ((2000 : Int) < (sizeOfN x : Int)) = decide (2000 < sizeOfN x) := by rw [Bool.eq_iff_iff]; simp; omega
  have hd2 : decide ((64 : Int) < (depthOfN x : Int)) = decide (64 < depthOfN x) := by rw [Bool.eq_iff_iff]; simp; omega
  generalize sizeOfN x = S at *
  generalize depthOfN x = D at *
  have Hcs := Lib.hid hcs
  have HwA := Lib.hid hwA
  have Hat := Lib.hid hat
  have HpA := Lib.hid hpA
  have HrA := Lib.hid hrA
  have HsA := Lib.hid hsA
  have HbA := Lib.hid hbA
  clear hcs hwA hat hpA hrA hsA hbA
  obtain ⟨R, hR⟩ : ∃ R, R = goodP x gr := ⟨_, rfl⟩
  rw [← hR]
  refine (callsIn_wide (n := 3)).1 ?_
  refine callsIn_of_wp_marks Try.func11 rfl trivial ?_ rfl
  simp only [Try.ntmps11, List.size_toArray, List.length_cons, List.length_nil, Nat.reduceAdd, Nat.reduceSub, Array.replicate_succ, Array.replicate_zero, List.push_toArray, List.append_toArray, List.nil_append, List.cons_append]
  by_cases hbig : 2000 < S
  · rw [decide_eq_true hbig] at hs2
    have HR : Hid (R = false) := hR.trans (hgd (.inl hbig))
    clear hgd hgf hR hbig hdpI hd2
    gi_wp2_with ((try refine ⟨trivial, ?_⟩); gi_at_call 12; refine hszI.mono ?_; clear hszI; rintro e w1 ⟨rfl, hb1, hc1, hr1, hf1⟩)
    refine ⟨trivial, ?_⟩
    gi_wp2
    have hv := (HrA.out.below hb1 (by rw [HsA.out]; omega)).set (.bool false)
    have hc := hv.cell.1
    refine ⟨.bool false, ?_, by rw [HR.out], ?_⟩
    · simp [results, Try.f11, go_sem, hc]
    · exact HbA.out.trans ((hb1.mono HbA.out.size).setCell (p := ⟨w.heap.size + 1, 0, none⟩) (Nat.le_succ _) _)
  rw [decide_eq_false hbig] at hs2
  by_cases hdeep : 64 < D
  · rw [decide_eq_true hdeep] at hd2
    have HR : Hid (R = false) := hR.trans (hgd (.inr hdeep))
    clear hgd hgf hR hbig hdeep
    gi_wp2_with (first
      | (refine ⟨trivial, ?_⟩; gi_at_call 12; refine hszI.mono ?_; clear hszI; rintro e w1 ⟨rfl, hb1, hc1, hr1, hf1⟩; have hdpJ := hdpI w1 hb1; clear hdpI; have Hb1 := Lib.hid hb1; clear hb1)
      | (refine ⟨trivial, ?_⟩; gi_at_call 14; refine hdpJ.mono ?_; clear hdpJ hc1 hr1 hf1; rintro e w2 ⟨rfl, hb2, hc2, hr2, hf2⟩))
    have hv := (HrA.out.below hb2 (by rw [HsA.out]; omega)).set (.bool false)
    have hc := hv.cell.1
    refine ⟨.bool false, ?_, by rw [HR.out], ?_⟩
    · simp [results, Try.f11, go_sem, hc]
    · exact HbA.out.trans ((hb2.mono HbA.out.size).setCell (p := ⟨w.heap.size + 1, 0, none⟩) (Nat.le_succ _) _)
  rw [decide_eq_false hdeep] at hd2
  obtain ⟨hgd1, hgd2⟩ := hgf hbig hdeep
  rw [hgd1] at hR
  have HR := Lib.hid hR
  have Htake := Lib.hid hgd2
  clear hgd hgf hbig hdeep hgd1 hgd2 hR
  have hno := fun (w' : World) => (callsIn_wide (n := 2)).2 (nodes_walk Hat.out w')
  have Hcs2 := Hcs
  unfold Hid at Hcs2
  rw [Hcs2] at hno
  clear Hcs2
  gi_wp2_with (first
    | (refine ⟨trivial, ?_⟩; gi_at_call 12; refine hszI.mono ?_; clear hszI; rintro e w1 ⟨rfl, hb1, hc1, hr1, hf1⟩; have hdpJ := hdpI w1 hb1; clear hdpI; have Hb1 := Lib.hid hb1; clear hb1)
    | (refine ⟨trivial, ?_⟩; gi_at_call 14; refine hdpJ.mono ?_; clear hdpJ hc1 hr1 hf1; rintro e w2 ⟨rfl, hb2, hc2, hr2, hf2⟩; have hlt2 : w.heap.size + 2 ≤ w2.heap.size := (by have := hb2.size; have := HsA.out; omega); have hc3 := fun (o : Obj) (q : Nat) => ((Below.refl w2.heap.size w2).alloc (Nat.le_refl _) o).cell (p := ⟨w.heap.size, q, none⟩) (Nat.lt_of_lt_of_le (Nat.lt_succ_of_lt (Nat.lt_succ_self _)) hlt2); have Hb2 := Lib.hid hb2; clear hb2)
    | (refine ⟨trivial, ?_⟩; gi_at_call 21; refine (hno _).mono ?_; clear hno; rintro e w' ⟨rfl, rfl⟩))
  have hB2 := HbA.out.trans (Hb2.out.mono HbA.out.size)
  obtain ⟨w0, hw0⟩ : ∃ w0, w0 = (w2.alloc (.cells #[.int .i64 0] 3)).alloc (.cells cs.toArray 27) := ⟨_, rfl⟩
  have hs0 : w0.heap.size = w2.heap.size + 2 := by rw [hw0]; simp
  have hb20 : Below w2.heap.size w2 w0 := by rw [hw0]; exact ((Below.refl _ _).alloc (Nat.le_refl _) _).alloc (by simp) _
  have hb0 : Below w.heap.size w w0 := hB2.trans (hb20.mono hB2.size)
  have h9 : Node9 w0 (w2.heap.size + 1) 0 cs := by
    have h := World.alloc_heap_new (w2.alloc (.cells #[.int .i64 0] 3)) (.cells cs.toArray 27)
    rw [← hw0] at h
    simp only [World.size_alloc] at h
    refine ⟨by rw [Hcs.out]; rfl, fun q hq => ?_⟩
    simp [World.cell?, h]
  have hvG : Var w0 w2.heap.size (.int .i64 0) 3 := by rw [hw0]; exact (Var.new w2 (.int .i64 0) 3).alloc _
  have hvR : Var w0 (w.heap.size + 1) (.bool false) 4 := (HrA.out.below Hb2.out (by have := HsA.out; omega)).below hb20 (by omega)
  have hPP := block_below (block_below HpA.out Hb2.out (by have := HsA.out; omega)) hb20 (by omega)
  have hheld := nodes_held Hat.out hb0 (Bx := w2.heap.size + 1) (by omega) h9
  rw [Hcs.out] at hw0
  rw [← hw0]
  generalize hPo : (Obj.cells #[.bool st, .bool en, .int .i64 k, .int .u64 (word s 0), .int .u64 (word s 1), .int .u64 (word s 2), .int .u64 (word s 3), .int .i64 lo, .int .i64 hi, .int .i64 n, .slice a len cap, .int .i64 gr] 29) = PB at hPP
  have hPc : PB.isCells = true := by rw [← hPo]; rfl
  have HPo := Lib.hid hPo
  clear hw0 h9 hPo hc2 hr2 hf2 hc3
  refine wp_range_held (w := w0) rfl (enters_of Try.func28 (by kernel_rfl) rfl) hheld hb0.size (Below.refl _ _)
    (GoodI w w0 w2.heap.size PB) (GoodX w w0) (GoodI.own hPc hb0.size) (GoodX.own hb0.size)
    (fun _ _ h => h.2.2.2) (fun _ _ _ h => h.2.2.2) ⟨hvR, hPP, ⟨0, Nat.zero_le _, rfl, hvG⟩, Below.refl _ _⟩ ?turn ?done ?stop
  case turn =>
    intro l m pre y W o K hI ho hlen hlt hK
    obtain ⟨⟨nd, ds⟩, hnd⟩ := y
    obtain ⟨k1, s1, lo1, hi1, n1, ls⟩ := nd
    have hnd2 := hnd
    rw [at_mk] at hnd
    obtain ⟨_, _, _, _, a1, cap1, hds, _, _⟩ := hnd
    obtain ⟨hI1, hI2, ⟨nx, hnx, hfold, hvar⟩, hI4⟩ := hI
    have hds2 := hds
    simp only at hds
    subst hds
    have hst := stepN_mk (nx + 1) k1 s1 lo1 hi1 n1 ls
    have hfs := foldN_snoc hfold (.mk k1 s1 lo1 hi1 n1 ls)
    have hbl := fun W => blank_walk k1 s1 lo1 hi1 n1 a1 ls.length cap1 W
    have hfm := fun W hW => formed_walk hnd2 W hW
    have hn0 : w.heap.size ≤ W.heap.size := by have := hb0.size; omega
    have hg0 : w2.heap.size < W.heap.size := by omega
    have hstart := RoundF.start hI1 hI2 hvar hI4 hn0 o (.cells #[.int .i64 k1, .int .u64 (word s1 0), .int .u64 (word s1 1), .int .u64 (word s1 2), .int .u64 (word s1 3), .int .i64 lo1, .int .i64 hi1, .int .i64 n1, .slice a1 ls.length cap1] 27)
    have Hstart := Lib.hid hstart
    have Hst := Lib.hid hst
    have Hfs := Lib.hid hfs
    have Hlt := Lib.hid hlt
    clear hnd2 hds2 hst hfs hfold hvar hI1 hI2 hI4 hlt hstart hheld hPP hvR hvG
    gi_wp2
    refine hK _ _ ((KeepsOthers.alloc _ _).from _) fun W3 hto hs3 => ?_
    have hR3 := hto _ (RoundF.own hPc ho rfl hb0.size hb0.size) Hstart.out
    have hsz3 : w.heap.size ≤ W3.heap.size := by rw [hs3]; simp; omega
    have hcX := cells_at hR3.2.2.2.2.1
    have HR3 := Lib.hid hR3
    have hbl := hbl W3
    have hne : W.heap.size ≠ w.heap.size + 1 := by omega
    have hfold : ∀ y : NV w, y.1.1 = Nd.mk k1 s1 lo1 hi1 n1 ls → foldN (nds (pre ++ [y])) 1 = (if (blankN k1 s1 lo1 hi1 n1 && formedN k1 s1 lo1 hi1 ls) = true then (if k1 = 5 then (if n1 = ((nx + 1 : Nat) : Int) then some (nx + 1 + 1) else none) else some (nx + 1)) else none) := fun y hy => by
      rw [nds_append, show nds [y] = [Nd.mk k1 s1 lo1 hi1 n1 ls] from by rw [← hy]; rfl]
      exact Hfs.out.trans Hst.out
    have Hfold := Lib.hid hfold
    have hnb : (nx : Int) ≤ 100000 := by omega
    clear hR3 hto hs3 hK hfold hb20
    generalize blankN k1 s1 lo1 hi1 n1 = b1 at *
    generalize formedN k1 s1 lo1 hi1 ls = b2 at *
    have hdd : ∀ k : Nat, (Fence.wide.depth.isSome = true → 1 ≤ k) := fun k h => by cases h
    cases b1 with
    | false =>
      clear hfm
      gi_wp2_with (refine ⟨trivial, hdd _, ?_⟩; gi_at_call 24; refine (CallsIn.inRound l (callsIn_wide.2 hbl)).mono ?_; clear hbl; rintro e W5 ⟨rfl, hb5⟩; have HR5 := Lib.hid (HR3.out.still hsz3 hb5); have hc5 := HR5.out.1.cell; have hcX5 := cells_at HR5.out.2.2.2.2.1; have HB5 := Lib.hid hb5; clear hb5 hcX)
      · obtain ⟨hc51, hc52⟩ := hc5
        refine ⟨trivial, ?_⟩
        gi_wp2
        exact stop_post HR5.out (keepsFrom_below HB5.out) (Hfold.out _ rfl) hne
    | true =>
      cases b2 with
      | false =>
        gi_wp2_with (first
          | (refine ⟨trivial, hdd _, ?_⟩; gi_at_call 24; refine (CallsIn.inRound l (callsIn_wide.2 hbl)).mono ?_; clear hbl; rintro e W5 ⟨rfl, hb5⟩; have HR5 := Lib.hid (HR3.out.still hsz3 hb5); have hc5 := HR5.out.1.cell; have hcX5 := cells_at HR5.out.2.2.2.2.1; have HB5 := Lib.hid hb5; have hfm5 := hfm W5 (hb0.trans HR5.out.2.2.2.2.2); clear hb5 hcX)
          | (refine ⟨trivial, hdd _, ?_⟩; gi_at_call 25; refine (CallsIn.inRound l (callsIn_wide.2 hfm5)).mono ?_; clear hfm5 hcX5 hc5; rintro e W6 ⟨rfl, hb6⟩; have HR6 := Lib.hid (HR5.out.still (Nat.le_trans hsz3 HB5.out.size) hb6); have hc6 := HR6.out.1.cell; have hg6 := HR6.out.2.2.1.cell; have hcX6 := cells_at HR6.out.2.2.2.2.1; have HB6 := Lib.hid (HB5.out.trans (hb6.mono HB5.out.size)); clear hb6))
        exact stop_post HR6.out (keepsFrom_below HB6.out) (Hfold.out _ rfl) hne
      | true =>
        by_cases hk5 : k1 = 5
        · have e5 : (k1 == 5) = true := by simp [hk5]
          have Hk5 := Lib.hid hk5
          clear hk5
          by_cases hn5 : n1 = (nx : Int) + 1
          · have n5 : (n1 != (nx : Int) + 1) = false := by simp [hn5]
            have n6 : (n1 == (nx : Int) + 1) = true := by simp [hn5]
            have Hn5 := Lib.hid hn5
            clear hn5
            gi_wp2_with (first
              | (refine ⟨trivial, hdd _, ?_⟩; gi_at_call 24; refine (CallsIn.inRound l (callsIn_wide.2 hbl)).mono ?_; clear hbl; rintro e W5 ⟨rfl, hb5⟩; have HR5 := Lib.hid (HR3.out.still hsz3 hb5); have hc5 := HR5.out.1.cell; have hcX5 := cells_at HR5.out.2.2.2.2.1; have HB5 := Lib.hid hb5; have hfm5 := hfm W5 (hb0.trans HR5.out.2.2.2.2.2); clear hb5 hcX)
              | (refine ⟨trivial, hdd _, ?_⟩; gi_at_call 25; refine (CallsIn.inRound l (callsIn_wide.2 hfm5)).mono ?_; clear hfm5 hcX5 hc5; rintro e W6 ⟨rfl, hb6⟩; have HR6 := Lib.hid (HR5.out.still (Nat.le_trans hsz3 HB5.out.size) hb6); have hc6 := HR6.out.1.cell; have hg6 := HR6.out.2.2.1.cell; have hcX6 := cells_at HR6.out.2.2.2.2.1; have HB6 := Lib.hid (HB5.out.trans (hb6.mono HB5.out.size)); clear hb6))
            have hup := RoundF.up HR6.out (show w.heap.size + 1 ≠ w2.heap.size from by omega) (show w.heap.size ≠ w2.heap.size from by omega) (show W.heap.size ≠ w2.heap.size from by omega) (show W.heap.size + 1 ≠ w2.heap.size from by omega) (by omega) (.int .i64 ((nx : Int) + 1))
            rw [show ((nx : Int) + 1) = ((nx + 1 : Nat) : Int) from by omega] at hup ⊢
            refine next_post hup ((keepsFrom_below HB6.out).trans ((KeepsOthers.setCell _ _ _).from _)) (by simp; omega) ?_
            refine (Hfold.out _ rfl).trans ?_
            have h := Hk5.out
            have h2 := Hn5.out
            simp [h, h2]
          · have n5 : (n1 != (nx : Int) + 1) = true := by simp [bne, hn5]
            have n6 : (n1 == (nx : Int) + 1) = false := by simp [hn5]
            have Hn5 := Lib.hid hn5
            clear hn5
            gi_wp2_with (first
              | (refine ⟨trivial, hdd _, ?_⟩; gi_at_call 24; refine (CallsIn.inRound l (callsIn_wide.2 hbl)).mono ?_; clear hbl; rintro e W5 ⟨rfl, hb5⟩; have HR5 := Lib.hid (HR3.out.still hsz3 hb5); have hc5 := HR5.out.1.cell; have hcX5 := cells_at HR5.out.2.2.2.2.1; have HB5 := Lib.hid hb5; have hfm5 := hfm W5 (hb0.trans HR5.out.2.2.2.2.2); clear hb5 hcX)
              | (refine ⟨trivial, hdd _, ?_⟩; gi_at_call 25; refine (CallsIn.inRound l (callsIn_wide.2 hfm5)).mono ?_; clear hfm5 hcX5 hc5; rintro e W6 ⟨rfl, hb6⟩; have HR6 := Lib.hid (HR5.out.still (Nat.le_trans hsz3 HB5.out.size) hb6); have hc6 := HR6.out.1.cell; have hg6 := HR6.out.2.2.1.cell; have hcX6 := cells_at HR6.out.2.2.2.2.1; have HB6 := Lib.hid (HB5.out.trans (hb6.mono HB5.out.size)); clear hb6))
            have hup := RoundF.up HR6.out (show w.heap.size + 1 ≠ w2.heap.size from by omega) (show w.heap.size ≠ w2.heap.size from by omega) (show W.heap.size ≠ w2.heap.size from by omega) (show W.heap.size + 1 ≠ w2.heap.size from by omega) (by omega) (.int .i64 ((nx : Int) + 1))
            refine stop_post hup ((keepsFrom_below HB6.out).trans ((KeepsOthers.setCell _ _ _).from _)) ?_ hne
            refine (Hfold.out _ rfl).trans ?_
            have h := Hk5.out
            have h2 := Hn5.out
            simp [h, h2]
        · have e5 : (k1 == 5) = false := by simp [hk5]
          have Hk5 := Lib.hid hk5
          clear hk5
          gi_wp2_with (first
            | (refine ⟨trivial, hdd _, ?_⟩; gi_at_call 24; refine (CallsIn.inRound l (callsIn_wide.2 hbl)).mono ?_; clear hbl; rintro e W5 ⟨rfl, hb5⟩; have HR5 := Lib.hid (HR3.out.still hsz3 hb5); have hc5 := HR5.out.1.cell; have hcX5 := cells_at HR5.out.2.2.2.2.1; have HB5 := Lib.hid hb5; have hfm5 := hfm W5 (hb0.trans HR5.out.2.2.2.2.2); clear hb5 hcX)
            | (refine ⟨trivial, hdd _, ?_⟩; gi_at_call 25; refine (CallsIn.inRound l (callsIn_wide.2 hfm5)).mono ?_; clear hfm5 hcX5 hc5; rintro e W6 ⟨rfl, hb6⟩; have HR6 := Lib.hid (HR5.out.still (Nat.le_trans hsz3 HB5.out.size) hb6); have hc6 := HR6.out.1.cell; have hg6 := HR6.out.2.2.1.cell; have hcX6 := cells_at HR6.out.2.2.2.2.1; have HB6 := Lib.hid (HB5.out.trans (hb6.mono HB5.out.size)); clear hb6))
          refine next_post HR6.out (keepsFrom_below HB6.out) (by simp; omega) ?_
          refine (Hfold.out _ rfl).trans ?_
          have h := Hk5.out
          simp [h]
  case done =>
    rintro E ys W hE hS ⟨hv, hP, ⟨nx, hnx, hfold, hvar⟩, hb⟩ hk
    have hcP := hP
    rw [← HPo.out] at hcP
    have hcP := cells_at hcP
    have hcG := hvar.cell
    have hcR := hv.cell
    have hRv : R = (((nx : Int) == gr) && decide ((nx : Int) ≤ 32)) := by
      rw [HR.out, ← Htake.out, ← show nds ys = x.pre.take 100000 from hS, hfold]
      show (gr == ((nx + 1 : Nat) : Int) - 1 && decide (gr ≤ 32)) = _
      by_cases h : (nx : Int) = gr
      · rw [← h]; simp
      · rw [show ((nx : Int) == gr) = false from by simp [h], show (gr == ((nx + 1 : Nat) : Int) - 1) = false from by simp; omega]; rfl
    have HRv := Lib.hid hRv
    have HV := Lib.hid hv
    clear hRv hfold hP hvar hv hS
    generalize hb1 : ((nx : Int) == gr) = b1
    generalize hb2 : decide ((nx : Int) ≤ 32) = b2
    rw [hb1, hb2] at HRv
    cases b1 <;> cases b2 <;> (
      gi_wp2
      have hk' := (KeepsOthers.setCell W ⟨w.heap.size + 1, 0, none⟩ (.bool R)).same E _ hk rfl
      have hvs := HV.out.set (.bool R)
      have hre : R = _ := HRv.out
      simp only [Bool.and_self, Bool.and_false, Bool.and_true] at hre
      rw [hre] at hk' hvs ⊢
      refine ⟨by simp, .inl ⟨_, _, rfl, run_takeDeferred hk', ?_⟩⟩
      have hc5 := cell_kept hvs.cell.1 (grownBy_putObj' _ E (.deferred none)) (fun r e => by cases e; exact ⟨_, hk', rfl⟩)
      refine ⟨.bool _, ?_, rfl, ((hb0.trans hb).setCell (p := ⟨w.heap.size + 1, 0, none⟩) (Nat.le_succ _) _).trans (belowK_b (w := w) (Nat.le_refl _) _ E _ _ (by have := hb0.size; omega) hk' rfl rfl)⟩
      simp [results, Try.f11, go_sem, hc5])
  case stop =>
    rintro E c ys W hE hS ⟨rfl, hfold, hv, hb⟩ hk
    have hRf : R = false := by
      rw [HR.out, foldN_prefix (l := nds ys) (m := x.pre) (by rw [← Htake.out]; exact hS) hfold]
    gi_wp2
    refine ⟨by simp, .inl ⟨_, _, rfl, run_takeDeferred hk, ?_⟩⟩
    have hc5 := cell_kept hv.cell.1 (grownBy_putObj' _ E (.deferred none)) (fun r e => by cases e; exact ⟨_, hk, rfl⟩)
    refine ⟨.bool false, ?_, by rw [hRf], (hb0.trans hb).trans (belowK_b (w := w) (Nat.le_refl _) W E _ _ (by have := hb0.size; omega) hk rfl rfl)⟩
    simp [results, Try.f11, go_sem, hc5]
end Go.Proofs.Ytaanhijjhllckaa
