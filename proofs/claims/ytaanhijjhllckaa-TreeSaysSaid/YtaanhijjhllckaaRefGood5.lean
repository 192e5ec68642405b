/- The document's own Good, on patterns. -/
import Derived.Test.YtaanhijjhllckaaRefFormed
import Derived.Test.YtaanhijjhllckaaRefPattern
import Derived.Test.YtaanhijjhllckaaRefSame5
import Derived.Test.YtaanhijjhllckaaRefSize
import Derived.Test.YtaanhijjhllckaaRefDepth
import Derived.Deep.DeepCutAuto
namespace Go.Proofs.Ytaanhijjhllckaa
set_option maxRecDepth 100000
open Go.RowKit
theorem rp_root {w : World} {b : Nat} {st en : Bool} {cs : List Value} {gr : Int} (hl : cs.length = 261) (h : w.heap[b]? = some (.cells (rpCells st en cs gr).toArray 38)) : Ref261 w b 2 cs := ⟨hl, fun q hq => by
  rw [cells_at h, List.getElem?_toArray]
  unfold rpCells
  rw [Nat.add_comm, List.getElem?_cons_succ, List.getElem?_cons_succ, List.getElem?_append_left (by omega)]⟩
theorem rp_groups {w : World} {b : Nat} {st en : Bool} {cs : List Value} {gr : Int} (hl : cs.length = 261) (h : w.heap[b]? = some (.cells (rpCells st en cs gr).toArray 38)) : w.cell? ⟨b, 263, none⟩ = some (.int .i64 gr) := by
  rw [cells_at h, List.getElem?_toArray]
  unfold rpCells
  rw [List.getElem?_cons_succ, List.getElem?_cons_succ, List.getElem?_append_right (by omega), hl]; rfl
/-- as many groups as were found -/
def okG (gr : Int) : Option Nat → Bool
  | some n' => decide (gr = (n' : Int) - 1)
  | none => false
theorem okG_some (gr : Int) (n' : Nat) : okG gr (some n') = decide (gr = (n' : Int) - 1) := rfl
theorem wrap_form {n : Nat} (h : n ≤ 1000000) : wrap64 ((n : Int) - 1) = (n : Int) - 1 := by unfold wrap64; omega
theorem refOff_below {R : Nat} {w w' : World} {x : Nd} {cs : List Value} (hat : Nd.ref w x cs) (hb : Below w.heap.size w w') (hR : w.heap.size ≤ R) : RefOff R w' x cs :=
  Nd.ref_same (fun a v ha => by
    have hlt := World.block_lt_of_cell? w _ ha
    rw [World.cell?_of_block (veil_block (by simp; omega)), hb.cell hlt, ha]) (by rw [veil_size]; exact hb.size) x cs hat
set_option maxHeartbeats 16000000 in
theorem refGood5_any (x : Nd) (cs : List Value) (w : World) (st en : Bool) (gr : Int) (hat : Nd.ref w x cs) (hg : fits64 gr) :
    Calls Try.prog 7 #[.agg (rpCells st en cs gr).toArray] w fun e w' => e = .returned (.bool (decide (x.count ≤ 2000) && decide (x.deep ≤ 64) && okG gr (x.form 1) && decide (gr ≤ 32))) ∧ Below w.heap.size w w' := by
  have hl : cs.length = 261 := ref_len hat
  obtain ⟨W, hW⟩ : ∃ W, W = (w.alloc (.cells (rpCells st en cs gr).toArray 38)).alloc (.cells #[.int .i64 1] 3) := ⟨_, rfl⟩
  have hbW : Below w.heap.size w W := by rw [hW]; exact ((Below.refl _ _).alloc (Nat.le_refl _) _).alloc (by simp) _
  have hb : W.heap[w.heap.size]? = some (.cells (rpCells st en cs gr).toArray 38) := by rw [hW]; exact (Below.heap_alloc _ _ _ (by simp)).trans (World.alloc_heap_new w _)
  have hR : RInt W (w.heap.size + 1) 1 := by
    have h := World.alloc_heap_new (w.alloc (.cells (rpCells st en cs gr).toArray 38)) (.cells #[.int .i64 1] 3)
    rw [World.size_alloc] at h
    rw [hW]; exact h
  have Hroot := Lib.hid (fun w' (h : Bar (w.heap.size + 1) W w') => rp_root hl ((h.block _ (Array.getElem?_eq_some_iff.1 hb).1 (by omega)).trans hb))
  have Hgr := Lib.hid (fun w' (h : Bar (w.heap.size + 1) W w') => rp_groups hl ((h.block _ (Array.getElem?_eq_some_iff.1 hb).1 (by omega)).trans hb))
  have HbW := Lib.hid hbW
  have HR := Lib.hid hR
  have hsize := refSize_any x.count x cs W 2001 (Nat.le_refl _) (by decide) (Nd.ref_below hbW hat)
  have Hdeep := Lib.hid (fun w' (h : Below W.heap.size W w') => refDepth_any 64 x cs w' (by decide) (Nd.ref_below (hbW.trans (h.mono hbW.size)) hat))
  have Hform := Lib.hid (fun w' (h : Below W.heap.size W w') (hc : x.count ≤ 2000) => refFormed_any x.count x cs w' (w.heap.size + 1) 1 (Nat.le_refl _) (by omega) (refOff_below hat (hbW.trans (h.mono hbW.size)) (Nat.le_succ _)) (hR.below h))
  generalize hC : (rpCells st en cs gr).toArray = C at hW ⊢
  have Hfit := Lib.hid hg
  have h1 : decide (((min x.count 2001 : Nat) : Int) ≤ 2000) = decide (x.count ≤ 2000) := by rw [decide_eq_decide]; omega
  have h2 : decide (((min x.deep (64 + 1) : Nat) : Int) ≤ 64) = decide (x.deep ≤ 64) := by rw [decide_eq_decide]; omega
  have H1 := Lib.hid h1
  have H2 := Lib.hid h2
  clear h1 h2 hbW hb hR hC hat hg
  generalize min x.count 2001 = q1 at hsize H1
  generalize min x.deep (64 + 1) = q2 at Hdeep H2
  obtain ⟨b1, hb1⟩ : ∃ b1, b1 = decide (x.count ≤ 2000) := ⟨_, rfl⟩
  rw [← hb1] at H1 ⊢
  have Hc2 : Hid (b1 = true → x.count ≤ 2000) := Lib.hid fun h => of_decide_eq_true (hb1.symm.trans h)
  clear hb1
  generalize decide (x.deep ≤ 64) = b2 at H2 ⊢
  have Hn : Hid (x.count ≤ 2000 → ∀ n', x.form 1 = some n' → wrap64 ((n' : Int) - 1) = (n' : Int) - 1) := Lib.hid fun hc n' h => by have h1 := form_le x 1 n' h; exact wrap_form (by omega)
  generalize x.form 1 = fr at Hform Hn ⊢
  obtain ⟨RB, hRB⟩ : ∃ RB : Bool, RB = (b1 && b2 && okG gr fr && decide (gr ≤ 32)) := ⟨_, rfl⟩
  rw [← hRB]
  have HRB := Lib.hid hRB
  clear hRB
  have Hbar : Hid (∀ w', Below W.heap.size W w' → Bar (w.heap.size + 1) W w') := Lib.hid fun w' h => Bar.of_below h
  go_enter Try.func7, Try.ntmps7
  go_upto_region 2 with (first
    | (refine Go.Great.wpList_boxTo rfl _ _ rfl _ rfl w.heap.size rfl C rfl ?_)
    | fail)
  rw [← hW]
  clear hW
  go_wp2_with (first
    | (refine wpList_load_refnode rfl _ rfl w.heap.size 2 cs rfl (Hroot.out _ (Bar.refl _ _)) ?_)
    | fail)
  refine hsize.mono ?_
  rintro e w1 ⟨rfl, hb1⟩
  have Hb1 := Lib.hid hb1
  have d1 := H1.out
  clear hb1 hsize
  cases b1
  · have hq1 : ¬ q1 ≤ 2000 := by have h := of_decide_eq_false d1; omega
    go_wp2_with (first | go_big_skip | fail)
    go_ret
    exact ⟨congrArg (fun b => Ending.returned (.bool b)) (by rw [HRB.out]; rfl), HbW.out.trans (Hb1.out.mono HbW.out.size)⟩
  have hq1 : q1 ≤ 2000 := by have h := of_decide_eq_true d1; omega
  go_wp2_with (first
    | go_big_skip
    | (refine wpList_load_refnode_want (by rfl) _ rfl w.heap.size 2 cs rfl (Hroot.out _ (Hbar.out _ Hb1.out)) ?_)
    | fail)
  refine (Hdeep.out _ Hb1.out).mono ?_
  rintro e w2 ⟨rfl, hb2⟩
  have Hb2 := Lib.hid (Hb1.out.trans (hb2.mono Hb1.out.size))
  have d2 := H2.out
  clear hb2
  cases b2
  · have hq2 : ¬ q2 ≤ 64 := by have h := of_decide_eq_false d2; omega
    go_wp2_with (first | go_big_skip | fail)
    go_ret
    exact ⟨congrArg (fun b => Ending.returned (.bool b)) (by rw [HRB.out]; rfl), HbW.out.trans (Hb2.out.mono HbW.out.size)⟩
  have hq2 : q2 ≤ 64 := by have h := of_decide_eq_true d2; omega
  have hform := Hform.out _ Hb2.out (Hc2.out (by first | rfl | trivial))
  go_wp2_with (first
    | go_big_skip
    | (refine wpList_load_refnode_want (by rfl) _ rfl w.heap.size 2 cs rfl (Hroot.out _ (Hbar.out _ Hb2.out)) ?_)
    | fail)
  refine hform.mono ?_
  clear hform
  intro e w3 hp
  cases fr with
  | none =>
    obtain ⟨rfl, hbar3⟩ := hp
    have Hb3 := Lib.hid ((Hbar.out _ Hb2.out).trans hbar3)
    clear hbar3
    go_wp2_with (first | go_big_skip | fail)
    go_ret
    exact ⟨congrArg (fun b => Ending.returned (.bool b)) (by rw [HRB.out]; rfl), HbW.out.trans ⟨Hb3.out.os, Hb3.out.tape, Hb3.out.output, Nat.le_trans (Nat.le_refl _) (Nat.le_trans (Nat.le_refl _) Hb3.out.size), fun k hk => Hb3.out.block k (Nat.lt_of_lt_of_le hk HbW.out.size) (by omega)⟩⟩
  | some n' =>
    obtain ⟨rfl, hri3, hbar3⟩ := hp
    have Hb3 := Lib.hid ((Hbar.out _ Hb2.out).trans hbar3)
    have r0 := hri3.cell
    have g0 := Hgr.out _ Hb3.out
    clear hbar3 hri3
    have hw : wrap64 ((n' : Int) - 1) = (n' : Int) - 1 := Hn.out (Hc2.out (by first | rfl | trivial)) n' rfl
    have Hend : Hid (Below w.heap.size w w3) := Lib.hid (HbW.out.trans ⟨Hb3.out.os, Hb3.out.tape, Hb3.out.output, Hb3.out.size, fun k hk => Hb3.out.block k (Nat.lt_of_lt_of_le hk HbW.out.size) (by omega)⟩)
    by_cases hg1 : gr = (n' : Int) - 1
    · have e1 : (gr == (n' : Int) - 1) = true := by simp [hg1]
      have Hg1 := Lib.hid hg1
      clear hg1
      by_cases hg2 : gr ≤ 32
      · have e2 : decide (gr ≤ 32) = true := decide_eq_true hg2
        have Hg2 := Lib.hid hg2
        go_wp2_with (first | go_big_skip | fail)
        go_ret
        exact ⟨congrArg (fun b => Ending.returned (.bool b)) (by rw [HRB.out, okG_some, decide_eq_true Hg1.out, decide_eq_true (p := gr ≤ 32) (by have h := Hg2.out; omega)]; rfl), Hend.out⟩
      · have e2 : decide (gr ≤ 32) = false := decide_eq_false hg2
        have Hg2 := Lib.hid hg2
        go_wp2_with (first | go_big_skip | fail)
        go_ret
        exact ⟨congrArg (fun b => Ending.returned (.bool b)) (by rw [HRB.out, okG_some, decide_eq_true Hg1.out, decide_eq_false (p := gr ≤ 32) (by have h := Hg2.out; omega)]; rfl), Hend.out⟩
    · have e1 : (gr == (n' : Int) - 1) = false := by simp [hg1]
      have Hg1 := Lib.hid hg1
      clear hg1
      go_wp2_with (first | go_big_skip | fail)
      go_ret
      exact ⟨congrArg (fun b => Ending.returned (.bool b)) (by rw [HRB.out, okG_some, decide_eq_false Hg1.out]; rfl), Hend.out⟩
end Go.Proofs.Ytaanhijjhllckaa
