/- tree.formed, walked. -/
import Derived.Test.YtlgpbgcheeaalaaGreatDoorTreeForm
namespace Go.Proofs.YtlgpbgcheeaalaaGreatDoor
set_option maxRecDepth 100000
open Go.RowKit
/-- a node out of memory, by an operation that stands behind a guard -/
theorem wpList_load_node_want {ops : Array Oper} {rest : List Oper} {o : Oper} {a : Act} {w : World} {Q : Exit → Act → World → Prop} (hw : Region.wanted o (yielded ops a.tmps) = true) (x : Operand) (ho : o.op = .load 39 x)
    (b off : Nat) (cs : List Value) (hx : a.eval x = .pointer (some ⟨b, off, none⟩)) (hc : Node9 w b off cs)
    (h : wpList Tryz.prog ops Q rest (a.put o.dst (.agg cs.toArray)) w) : wpList Tryz.prog ops Q (o :: rest) a w :=
  BigFrame.wpList_want hw fun _ hK => by
    unfold Oper.wp execOp
    simp only [ho, hx, Instr.loadAt, Instr.sureAddr, Sem.run_bind, Sem.run_pure, Result.andThen_ok, loadNode hc]
    exact hK _ _ h
/-- the fields that are of the kind, and which nodes are in it -/
def formedN (k : Int) (s : BitVec 256) (lo hi : Int) (l : List Nd) : Bool :=
  if k = 1 then !decide (s = 0) && decide (l.length = 0)
  else if k = 2 then decide (2 ≤ l.length) && l.all (fun y => pieceK y.kind)
  else if k = 3 then decide (2 ≤ l.length) && l.all (fun y => branchK y.kind)
  else if k = 4 then boundedN lo hi && decide (l.length = 1) && l.all (fun y => atomK y.kind)
  else if k = 5 ∨ k = 6 then decide (l.length = 1)
  else false
set_option maxRecDepth 100000 in
set_option maxHeartbeats 2000000 in
theorem formed_walk {W0 : World} {k : Int} {s : BitVec 256} {lo hi n : Int} {l : List Nd} {cs : List Value} (hat : Nd.at W0 (.mk k s lo hi n l) cs) (w : World) (hb : Below W0.heap.size W0 w) :
    Calls Tryz.prog 90 #[.agg cs.toArray] w fun e w' => e = .returned (.bool (formedN k s lo hi l)) ∧ Below w.heap.size w w' := by
  rw [at_mk] at hat
  obtain ⟨_, _, _, _, a, cap, rfl, hmax, hl⟩ := hat
  have hb1 : ∀ o, Below W0.heap.size W0 (w.alloc o) := fun o => hb.alloc hb.size o
  have hlen := len_any s
  have hp := fun o => all_piece hmax hl (w.alloc o) (hb1 o)
  have hbr := fun o => all_branch hmax hl (w.alloc o) (hb1 o)
  have hbd := bounded_walk lo hi
  have hs1 : decide (0 < ((elems s).length : Int)) = !decide (s = 0) := by
    rw [Bool.eq_iff_iff]
    have h := elems_zero_iff s
    simp only [Bool.not_eq_true', decide_eq_true_eq, decide_eq_false_iff_not]
    rw [← h]; omega
  have hl0 : ((l.length : Int) == 0) = decide (l.length = 0) := by rw [Bool.eq_iff_iff]; simp
  have hl1 : ((l.length : Int) == 1) = decide (l.length = 1) := by rw [Bool.eq_iff_iff, beq_iff_eq, decide_eq_true_eq]; omega
  have hl2 : decide ((2 : Int) ≤ l.length) = decide (2 ≤ l.length) := by rw [Bool.eq_iff_iff]; simp; omega
  by_cases h1 : k = 1
  · subst h1
    rw [show formedN 1 s lo hi l = (!decide (s = 0) && decide (l.length = 0)) from rfl]
    clear hp hbr hbd hl hl1 hl2
    generalize ((elems s).length : Int) = E at *
    generalize decide (s = 0) = b1 at *
    generalize decide (l.length = 0) = b2 at *
    cases b1 <;> cases b2 <;> (
      go_enter Tryz.func90, Tryz.ntmps90
      go_wp2_with (go_at_call 58; refine (hlen _).mono ?_; clear hlen; rintro e w2 ⟨rfl, hb3⟩; have hcell := box_cell hb3; have hb4 := Lib.hid hb3; clear hb3)
      go_ret
      exact ⟨rfl, box_below hb4.out⟩)
  by_cases h2 : k = 2
  · subst h2
    rw [show formedN 2 s lo hi l = (decide (2 ≤ l.length) && l.all (fun y => pieceK y.kind)) from rfl]
    clear hlen hbr hbd hl hl1 hl0
    generalize l.all (fun y => pieceK y.kind) = b1 at *
    generalize decide (2 ≤ l.length) = b2 at *
    cases b1 <;> cases b2 <;> (
      go_enter Tryz.func90, Tryz.ntmps90
      go_wp2_with (go_at_call 109; refine (hp _).mono ?_; clear hp; rintro e w2 ⟨rfl, hb3⟩; have hb4 := Lib.hid hb3; clear hb3)
      go_ret
      first
        | exact ⟨rfl, (Below.refl _ _).alloc (Nat.le_refl _) _⟩
        | exact ⟨rfl, box_below hb4.out⟩)
  by_cases h3 : k = 3
  · subst h3
    rw [show formedN 3 s lo hi l = (decide (2 ≤ l.length) && l.all (fun y => branchK y.kind)) from rfl]
    clear hlen hp hbd hl hl1 hl0
    generalize l.all (fun y => branchK y.kind) = b1 at *
    generalize decide (2 ≤ l.length) = b2 at *
    cases b1 <;> cases b2 <;> (
      go_enter Tryz.func90, Tryz.ntmps90
      go_wp2_with (go_at_call 109; refine (hbr _).mono ?_; clear hbr; rintro e w2 ⟨rfl, hb3⟩; have hb4 := Lib.hid hb3; clear hb3)
      go_ret
      first
        | exact ⟨rfl, (Below.refl _ _).alloc (Nat.le_refl _) _⟩
        | exact ⟨rfl, box_below hb4.out⟩)
  by_cases h4 : k = 4
  · subst h4
    rw [show formedN 4 s lo hi l = (boundedN lo hi && decide (l.length = 1) && l.all (fun y => atomK y.kind)) from rfl]
    clear hlen hp hbr hl0 hl2
    by_cases hone : l.length = 1 ∧ boundedN lo hi = true
    · rcases hl with hl | ⟨b, off, rfl, hcap, hbw, hnodes⟩
      · omega
      obtain ⟨x, rfl⟩ := List.length_eq_one_iff.mp hone.1
      rw [nodesAt_cons] at hnodes
      obtain ⟨⟨cs, hcs, hcell, hchild⟩, _⟩ := hnodes
      have h9 : ∀ o, Node9 (w.alloc o) b off cs := fun o => ⟨hcs, fun q hq => by rw [(hb1 o).cell (p := ⟨b, off + q, none⟩) hbw]; exact hcell q hq⟩
      have hcall := isAtom_walk hchild
      rw [hone.2]
      rw [hone.2] at hbd
      rw [show (true && decide ([x].length = 1) && [x].all fun y => atomK y.kind) = atomK x.kind from by simp]
      obtain ⟨s', lo', hi', n', a2, cap2, _, hcs'⟩ := at_cells hchild
      generalize atomK x.kind = v at hcall
      generalize x.kind = k' at hcs'
      generalize x.nodes.length = len' at hcs'
      subst hcs'
      clear hcell hchild hone hl1
      go_enter Tryz.func90, Tryz.ntmps90
      go_wp2_with (first | (refine wpList_load_node_want rfl _ rfl b off _ rfl (h9 _) ?_) | (go_at_call 112; refine (hbd _).mono ?_; clear hbd; rintro e w2 ⟨rfl, rfl⟩) | (go_at_call 113; refine (hcall _).mono ?_; clear hcall; rintro e w2 ⟨rfl, hb3⟩; have hb4 := Lib.hid hb3; clear hb3) | fail)
      go_ret
      exact ⟨rfl, box_below hb4.out⟩
    · have hz : (boundedN lo hi && decide (l.length = 1) && l.all fun y => atomK y.kind) = false := by
        cases h : boundedN lo hi
        · rfl
        · rw [decide_eq_false (fun h1 => hone ⟨h1, h⟩)]; rfl
      rw [hz]
      have hne : boundedN lo hi = false ∨ decide (l.length = 1) = false := by
        cases h : boundedN lo hi
        · exact .inl rfl
        · exact .inr (decide_eq_false (fun h1 => hone ⟨h1, h⟩))
      clear hz hone hl
      generalize boundedN lo hi = b1 at *
      generalize decide (l.length = 1) = b2 at *
      cases b1 <;> cases b2 <;> first | (exact absurd hne (by decide)) | (
        clear hne
        go_enter Tryz.func90, Tryz.ntmps90
        go_wp2_with (go_at_call 112; refine (hbd _).mono ?_; clear hbd; rintro e w2 ⟨rfl, rfl⟩)
        go_ret
        exact ⟨rfl, (Below.refl _ _).alloc (Nat.le_refl _) _⟩)
  clear hlen hp hbr hbd hl
  have e1 : (k == 1) = false := by simp [h1]
  have e2 : (k == 2) = false := by simp [h2]
  have e3 : (k == 3) = false := by simp [h3]
  have e4 : (k == 4) = false := by simp [h4]
  by_cases h5 : k = 5
  · subst h5
    rw [show formedN 5 s lo hi l = decide (l.length = 1) from rfl]
    generalize decide (l.length = 1) = b2 at *
    clear h1 h2 h3 h4 e1 e2 e3 e4
    cases b2 <;> (
      go_enter Tryz.func90, Tryz.ntmps90
      go_wp2
      go_ret
      exact ⟨rfl, (Below.refl _ _).alloc (Nat.le_refl _) _⟩)
  by_cases h6 : k = 6
  · subst h6
    rw [show formedN 6 s lo hi l = decide (l.length = 1) from rfl]
    generalize decide (l.length = 1) = b2 at *
    clear h1 h2 h3 h4 e1 e2 e3 e4
    cases b2 <;> (
      go_enter Tryz.func90, Tryz.ntmps90
      go_wp2
      go_ret
      exact ⟨rfl, (Below.refl _ _).alloc (Nat.le_refl _) _⟩)
  have e5 : (k == 5) = false := by simp [h5]
  have e6 : (k == 6) = false := by simp [h6]
  rw [show formedN k s lo hi l = false from by simp [formedN, h1, h2, h3, h4, h5, h6]]
  clear h1 h2 h3 h4 h5 h6
  go_enter Tryz.func90, Tryz.ntmps90
  go_wp2
  go_ret
  exact ⟨rfl, (Below.refl _ _).alloc (Nat.le_refl _) _⟩
end Go.Proofs.YtlgpbgcheeaalaaGreatDoor
