/- tree.all, blank, formed, walked; and how the nodes one behind the other tell whether a node is as P5.1 says. -/
import Derived.Test.YtlgpbgcheeaalaaGreatDoorTreeKinds
namespace Go.Proofs.YtlgpbgcheeaalaaGreatDoor
set_option maxRecDepth 100000
open Go.RowKit
set_option maxRecDepth 100000 in
set_option maxHeartbeats 2000000 in
theorem all_piece {W0 : World} {l : List Nd} {a : Option Addr} {cap : Nat} (hmax : l.length ≤ maxLen) (hl : l.length = 0 ∨ ∃ b off, a = some ⟨b, off, none⟩ ∧ l.length ≤ cap ∧ b < W0.heap.size ∧ nodesAt W0 l b off)
    (w : World) (hb : Below W0.heap.size W0 w) :
    Calls Tryz.prog 109 #[.slice a l.length cap, .func (.func 110) #[] #[]] w fun e w' => e = .returned (.bool (l.all fun y => pieceK y.kind)) ∧ Below w.heap.size w w' := by
  have hmx : l.length ≤ 9223372036854775807 := Nat.le_trans hmax (by decide)
  obtain ⟨R, hR⟩ : ∃ R, R = l.all fun y => pieceK y.kind := ⟨_, rfl⟩
  rw [← hR]
  have HR := Lib.hid hR
  clear hR
  go_enter Tryz.func109, Tryz.ntmps109
  go_wp2_with fail
  go_loopw [9] (fun i wr => ∃ j : Nat, i = .int .i64 j ∧ j ≤ l.length ∧ Hid ((l.take j).all (fun y => pieceK y.kind) = true) ∧ Below w.heap.size w wr) (fun i _ => l.length - (intOf i).toNat)
  case atStart => exact ⟨0, rfl, Nat.zero_le _, rfl, Below.refl _ _⟩
  case round =>
    obtain ⟨j, rfl, hjl, hno, hB⟩ := hrel
    by_cases hjn : j < l.length
    · have hdj : decide ((j : Int) < l.length) = true := by simp; omega
      rcases hl with hl | ⟨b, off, rfl, hcap, hbw, hnodes⟩
      · omega
      obtain ⟨cs, hcs, hcell, hchild⟩ := nodes_get W0 b l off hnodes j hjn
      have hB0 : Below W0.heap.size W0 wr := hb.trans (hB.mono hb.size)
      have h9 : Node9 wr b (off + j * 9) cs := ⟨hcs, fun q hq => by rw [hB0.cell (p := ⟨b, off + j * 9 + q, none⟩) hbw]; exact hcell q hq⟩
      have hB2 : ∀ o, Below w.heap.size w (wr.alloc o) := fun o => hB.alloc hB.size o
      have hcall := isPiece_walk hchild
      have hstep : (l.take (j + 1)).all (fun y => pieceK y.kind) = pieceK l[j].kind := by
        rw [List.take_succ_eq_append_getElem hjn, List.all_append, hno.out]; simp
      have hany : pieceK l[j].kind = false → l.all (fun y => pieceK y.kind) = false := fun h => by
        rw [List.all_eq_false]
        exact ⟨l[j], List.getElem_mem hjn, by rw [h]; simp⟩
      obtain ⟨s', lo', hi', n', a2, cap2, _, hcs'⟩ := at_cells hchild
      generalize pieceK l[j].kind = v at hcall hstep hany
      generalize l[j].kind = k' at hcs'
      generalize l[j].nodes.length = len' at hcs'
      subst hcs'
      have Hstep := Lib.hid hstep
      have Hany := Lib.hid hany
      clear hstep hany hchild hcell hnodes
      cases v with
      | false =>
        have hRf : R = false := by rw [HR.out]; exact Hany.out rfl
        clear HR
        subst hRf
        go_wp2_with (first | (refine wpList_load_node rfl _ rfl b (off + j * 9) _ rfl h9 ?_) | (go_at_call 110; refine (hcall _).mono ?_; clear hcall; rintro e w3 ⟨rfl, hb3⟩) | fail)
        go_ret
        exact ⟨rfl, (hB2 _).trans (hb3.mono (hB2 _).size)⟩
      | true =>
        go_wp2_with (first | (refine wpList_load_node rfl _ rfl b (off + j * 9) _ rfl h9 ?_) | (go_at_call 110; refine (hcall _).mono ?_; clear hcall; rintro e w3 ⟨rfl, hb3⟩) | fail)
        go_roundw
        case rel => exact ⟨j + 1, by go_num, Nat.succ_le_of_lt hjn, Hstep.out, (hB2 _).trans (hb3.mono (hB2 _).size)⟩
        case measure => simp [intOf]; omega
    · obtain rfl : j = l.length := by omega
      have hdj : decide ((l.length : Int) < l.length) = false := by simp
      have hRt : R = true := by have h := hno.out; rw [List.take_length] at h; rw [HR.out, h]
      clear hl HR
      subst hRt
      go_wp2_with fail
      go_ret
      exact ⟨rfl, hB⟩
set_option maxRecDepth 100000 in
set_option maxHeartbeats 2000000 in
theorem all_branch {W0 : World} {l : List Nd} {a : Option Addr} {cap : Nat} (hmax : l.length ≤ maxLen) (hl : l.length = 0 ∨ ∃ b off, a = some ⟨b, off, none⟩ ∧ l.length ≤ cap ∧ b < W0.heap.size ∧ nodesAt W0 l b off)
    (w : World) (hb : Below W0.heap.size W0 w) :
    Calls Tryz.prog 109 #[.slice a l.length cap, .func (.func 111) #[] #[]] w fun e w' => e = .returned (.bool (l.all fun y => branchK y.kind)) ∧ Below w.heap.size w w' := by
  have hmx : l.length ≤ 9223372036854775807 := Nat.le_trans hmax (by decide)
  obtain ⟨R, hR⟩ : ∃ R, R = l.all fun y => branchK y.kind := ⟨_, rfl⟩
  rw [← hR]
  have HR := Lib.hid hR
  clear hR
  go_enter Tryz.func109, Tryz.ntmps109
  go_wp2_with fail
  go_loopw [9] (fun i wr => ∃ j : Nat, i = .int .i64 j ∧ j ≤ l.length ∧ Hid ((l.take j).all (fun y => branchK y.kind) = true) ∧ Below w.heap.size w wr) (fun i _ => l.length - (intOf i).toNat)
  case atStart => exact ⟨0, rfl, Nat.zero_le _, rfl, Below.refl _ _⟩
  case round =>
    obtain ⟨j, rfl, hjl, hno, hB⟩ := hrel
    by_cases hjn : j < l.length
    · have hdj : decide ((j : Int) < l.length) = true := by simp; omega
      rcases hl with hl | ⟨b, off, rfl, hcap, hbw, hnodes⟩
      · omega
      obtain ⟨cs, hcs, hcell, hchild⟩ := nodes_get W0 b l off hnodes j hjn
      have hB0 : Below W0.heap.size W0 wr := hb.trans (hB.mono hb.size)
      have h9 : Node9 wr b (off + j * 9) cs := ⟨hcs, fun q hq => by rw [hB0.cell (p := ⟨b, off + j * 9 + q, none⟩) hbw]; exact hcell q hq⟩
      have hB2 : ∀ o, Below w.heap.size w (wr.alloc o) := fun o => hB.alloc hB.size o
      have hcall := isBranch_walk hchild
      have hstep : (l.take (j + 1)).all (fun y => branchK y.kind) = branchK l[j].kind := by
        rw [List.take_succ_eq_append_getElem hjn, List.all_append, hno.out]; simp
      have hany : branchK l[j].kind = false → l.all (fun y => branchK y.kind) = false := fun h => by
        rw [List.all_eq_false]
        exact ⟨l[j], List.getElem_mem hjn, by rw [h]; simp⟩
      obtain ⟨s', lo', hi', n', a2, cap2, _, hcs'⟩ := at_cells hchild
      generalize branchK l[j].kind = v at hcall hstep hany
      generalize l[j].kind = k' at hcs'
      generalize l[j].nodes.length = len' at hcs'
      subst hcs'
      have Hstep := Lib.hid hstep
      have Hany := Lib.hid hany
      clear hstep hany hchild hcell hnodes
      cases v with
      | false =>
        have hRf : R = false := by rw [HR.out]; exact Hany.out rfl
        clear HR
        subst hRf
        go_wp2_with (first | (refine wpList_load_node rfl _ rfl b (off + j * 9) _ rfl h9 ?_) | (go_at_call 111; refine (hcall _).mono ?_; clear hcall; rintro e w3 ⟨rfl, hb3⟩) | fail)
        go_ret
        exact ⟨rfl, (hB2 _).trans (hb3.mono (hB2 _).size)⟩
      | true =>
        go_wp2_with (first | (refine wpList_load_node rfl _ rfl b (off + j * 9) _ rfl h9 ?_) | (go_at_call 111; refine (hcall _).mono ?_; clear hcall; rintro e w3 ⟨rfl, hb3⟩) | fail)
        go_roundw
        case rel => exact ⟨j + 1, by go_num, Nat.succ_le_of_lt hjn, Hstep.out, (hB2 _).trans (hb3.mono (hB2 _).size)⟩
        case measure => simp [intOf]; omega
    · obtain rfl : j = l.length := by omega
      have hdj : decide ((l.length : Int) < l.length) = false := by simp
      have hRt : R = true := by have h := hno.out; rw [List.take_length] at h; rw [HR.out, h]
      clear hl HR
      subst hRt
      go_wp2_with fail
      go_ret
      exact ⟨rfl, hB⟩
/-- the fields that are not of the kind -/
def blankN (k : Int) (s : BitVec 256) (lo hi n : Int) : Bool := (k == 1 || decide (s = 0)) && (k == 4 || lo == 0 && hi == 0) && (k == 5 || n == 0)
theorem elems_zero_iff (s : BitVec 256) : ((elems s).length : Int) = 0 ↔ s = 0 := by
  constructor
  · intro h
    have h2 : elems s = [] := List.length_eq_zero_iff.mp (by omega)
    apply BitVec.eq_of_getLsbD_eq
    intro c hc
    rw [elems_nil h2 c hc]; simp
  · rintro rfl
    decide +kernel
set_option maxRecDepth 100000 in
set_option maxHeartbeats 2000000 in
theorem blank_walk (k : Int) (s : BitVec 256) (lo hi n : Int) (a : Option Addr) (len cap : Nat) (w : World) :
    Calls Tryz.prog 89 #[.agg #[.int .i64 k, .int .u64 (word s 0), .int .u64 (word s 1), .int .u64 (word s 2), .int .u64 (word s 3), .int .i64 lo, .int .i64 hi, .int .i64 n, .slice a len cap]] w
      fun e w' => e = .returned (.bool (blankN k s lo hi n)) ∧ Below w.heap.size w w' := by
  have hlen := len_any s
  have h2 : (((elems s).length : Int) == 0) = decide (s = 0) := by rw [Bool.eq_iff_iff, beq_iff_eq, decide_eq_true_eq]; exact elems_zero_iff s
  generalize ((elems s).length : Int) = E at *
  unfold blankN
  generalize decide (s = 0) = b2 at *
  cases h1 : (k == 1) <;> cases b2 <;> cases h3 : (k == 4) <;> cases h4 : (lo == 0) <;> cases h5 : (hi == 0) <;> cases h6 : (k == 5) <;> cases h7 : (n == 0) <;> (
    go_enter Tryz.func89, Tryz.ntmps89
    go_wp2_with (go_at_call 58; refine (hlen _).mono ?_; clear hlen; rintro e w2 ⟨rfl, hb⟩; have hcell := box_cell hb; have hb' := Lib.hid hb; clear hb)
    go_ret
    first
      | exact ⟨rfl, (Below.refl _ _).alloc (Nat.le_refl _) _⟩
      | exact ⟨rfl, box_below hb'.out⟩)
end Go.Proofs.YtlgpbgcheeaalaaGreatDoor
