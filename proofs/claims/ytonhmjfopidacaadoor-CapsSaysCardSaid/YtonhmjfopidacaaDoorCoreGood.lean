/- core.blank, core.formed, core.Good, walked. -/
import Derived.Test.YtonhmjfopidacaaDoorCoreParts
import Derived.Test.YtonhmjfopidacaaDoorTreeOps
namespace Go.Proofs.YtonhmjfopidacaaDoor
namespace K
set_option maxRecDepth 100000
open Go.RowKit Go.Shelf

attribute [local go_sem] Oper.semAt_some

def blankC (k : Int) (s : BitVec 256) (n : Int) : Bool := (k == 2 || decide (s = 0)) && (k == 6 || n == 0)
theorem blank_walk (k : Int) (s : BitVec 256) (n : Int) (a : Option Addr) (len cap : Nat) (w : World) :
    Calls Tryd.prog 51 #[.agg #[.int .i64 k, .int .u64 (word s 0), .int .u64 (word s 1), .int .u64 (word s 2), .int .u64 (word s 3), .int .i64 n, .slice a len cap]] w
      fun e w' => e = .returned (.bool (blankC k s n)) ∧ Below w.heap.size w w' := by
  have hlen := len_any s
  have h2 : (((elems s).length : Int) == 0) = decide (s = 0) := by rw [Bool.eq_iff_iff, beq_iff_eq, decide_eq_true_eq]; exact elems_zero_iff s
  generalize ((elems s).length : Int) = E at *
  unfold blankC
  generalize decide (s = 0) = b2 at *
  cases h1 : (k == 2) <;> cases b2 <;> cases h6 : (k == 6) <;> cases h7 : (n == 0) <;> (
    go_enter Tryd.func51, Tryd.ntmps51
    go_wp2_with (go_at_call 70; refine (hlen _).mono ?_; clear hlen; rintro e w2 ⟨rfl, hb⟩; have hcell := box_cell hb; have hb' := Lib.hid hb; clear hb)
    go_ret
    first
      | exact ⟨rfl, (Below.refl _ _).alloc (Nat.le_refl _) _⟩
      | exact ⟨rfl, box_below hb'.out⟩)
def formedC (k n : Int) (len : Nat) : Bool := if k = 0 ∨ k = 1 ∨ k = 2 then decide (len = 0) else if k = 3 ∨ k = 4 then decide (len = 2) else if k = 5 ∨ k = 7 then decide (len = 1) else if k = 6 then decide (len = 1) && decide (1 ≤ n) && decide (n ≤ 32) else false
theorem partOk_eq (k : Int) (s : BitVec 256) (n : Int) (len : Nat) : partOk k s n len = (blankC k s n && formedC k n len) := rfl
set_option maxHeartbeats 2000000 in
theorem formed_walk (k : Int) (s : BitVec 256) (n : Int) (a : Option Addr) (len cap : Nat) (w : World) :
    Calls Tryd.prog 52 #[.agg #[.int .i64 k, .int .u64 (word s 0), .int .u64 (word s 1), .int .u64 (word s 2), .int .u64 (word s 3), .int .i64 n, .slice a len cap]] w
      fun e w' => e = .returned (.bool (formedC k n len)) ∧ Below w.heap.size w w' := by
  have hl0 : ((len : Int) == 0) = decide (len = 0) := by rw [Bool.eq_iff_iff]; simp
  have hl1 : ((len : Int) == 1) = decide (len = 1) := by rw [Bool.eq_iff_iff, beq_iff_eq, decide_eq_true_eq]; omega
  have hl2 : ((len : Int) == 2) = decide (len = 2) := by rw [Bool.eq_iff_iff, beq_iff_eq, decide_eq_true_eq]; omega
  unfold formedC
  generalize decide (len = 0) = b0 at *
  generalize decide (len = 1) = b1 at *
  generalize decide (len = 2) = b2 at *
  by_cases h0 : k = 0
  · subst h0
    rw [if_pos (by decide)]
    go_enter Tryd.func52, Tryd.ntmps52
    go_wp2_with fail
    go_ret
    exact ⟨rfl, (Below.refl _ _).alloc (Nat.le_refl _) _⟩
  by_cases h1 : k = 1
  · subst h1
    rw [if_pos (by decide)]
    go_enter Tryd.func52, Tryd.ntmps52
    go_wp2_with fail
    go_ret
    exact ⟨rfl, (Below.refl _ _).alloc (Nat.le_refl _) _⟩
  by_cases h2 : k = 2
  · subst h2
    rw [if_pos (by decide)]
    go_enter Tryd.func52, Tryd.ntmps52
    go_wp2_with fail
    go_ret
    exact ⟨rfl, (Below.refl _ _).alloc (Nat.le_refl _) _⟩
  by_cases h3 : k = 3
  · subst h3
    rw [if_neg (by decide), if_pos (by decide)]
    go_enter Tryd.func52, Tryd.ntmps52
    go_wp2_with fail
    go_ret
    exact ⟨rfl, (Below.refl _ _).alloc (Nat.le_refl _) _⟩
  by_cases h4 : k = 4
  · subst h4
    rw [if_neg (by decide), if_pos (by decide)]
    go_enter Tryd.func52, Tryd.ntmps52
    go_wp2_with fail
    go_ret
    exact ⟨rfl, (Below.refl _ _).alloc (Nat.le_refl _) _⟩
  by_cases h5 : k = 5
  · subst h5
    rw [if_neg (by decide), if_neg (by decide), if_pos (by decide)]
    go_enter Tryd.func52, Tryd.ntmps52
    go_wp2_with fail
    go_ret
    exact ⟨rfl, (Below.refl _ _).alloc (Nat.le_refl _) _⟩
  by_cases h7 : k = 7
  · subst h7
    rw [if_neg (by decide), if_neg (by decide), if_pos (by decide)]
    go_enter Tryd.func52, Tryd.ntmps52
    go_wp2_with fail
    go_ret
    exact ⟨rfl, (Below.refl _ _).alloc (Nat.le_refl _) _⟩
  by_cases h6 : k = 6
  · subst h6
    rw [if_neg (by decide), if_neg (by decide), if_neg (by decide), if_pos rfl]
    generalize ha : decide (1 ≤ n) = c1
    generalize hb : decide (n ≤ 32) = c2
    cases b1 <;> cases c1 <;> cases c2 <;> (
      go_enter Tryd.func52, Tryd.ntmps52
      go_wp2_with fail
      go_ret
      exact ⟨rfl, (Below.refl _ _).alloc (Nat.le_refl _) _⟩)
  · rw [if_neg (by omega), if_neg (by omega), if_neg (by omega), if_neg h6]
    have e0 : (k == 0) = false := by simp [h0]
    have e1 : (k == 1) = false := by simp [h1]
    have e2 : (k == 2) = false := by simp [h2]
    have e3 : (k == 3) = false := by simp [h3]
    have e4 : (k == 4) = false := by simp [h4]
    have e5 : (k == 5) = false := by simp [h5]
    have e6 : (k == 6) = false := by simp [h6]
    have e7 : (k == 7) = false := by simp [h7]
    clear h0 h1 h2 h3 h4 h5 h6 h7
    go_enter Tryd.func52, Tryd.ntmps52
    go_wp2_with fail
    go_ret
    exact ⟨rfl, (Below.refl _ _).alloc (Nat.le_refl _) _⟩
/-! Good, over the parts in their order -/
mutual
theorem form_pre : ∀ x : Cr, x.form = x.pre.all Cr.ok
  | .mk k s n l => by rw [form_mk, pre_mk, List.all_cons, forms_pres l]; rfl
theorem forms_pres : ∀ l : List Cr, forms l = (pres l).all Cr.ok
  | [] => by rw [forms_nil, pres_nil]; rfl
  | x :: l => by rw [forms_cons, pres_cons, List.all_append, form_pre x, forms_pres l]
end
theorem good_stop {x : Cr} {l : List Cr} (hp : l <+: x.pre.take 100000) (h : 2000 < l.length ∨ l.all Cr.ok = false) : goodC x = false := by
  have hp2 : l <+: x.pre := hp.trans (List.take_prefix _ _)
  unfold goodC
  rcases h with h | h
  · have := hp2.length_le
    rw [Cr.pre_length] at this
    rw [decide_eq_false (by omega), Bool.false_and]
  · obtain ⟨m, hm⟩ := hp2
    rw [form_pre, ← hm, List.all_append, h, Bool.false_and, Bool.and_false]
theorem good_done {x : Cr} {l : List Cr} (hp : l = x.pre.take 100000) (h1 : l.length ≤ 2000) (h2 : l.all Cr.ok = true) : goodC x = true := by
  have hl := congrArg List.length hp
  rw [List.length_take, Cr.pre_length] at hl
  have hc : x.count ≤ 2000 := by omega
  rw [List.take_of_length_le (by rw [Cr.pre_length]; omega)] at hp
  unfold goodC
  rw [form_pre, ← hp, h2, decide_eq_true hc]; rfl
def GoodI (w w0 : World) (pre : List (NV w)) (W : World) : Prop :=
  Var W (w.heap.size + 1) (.bool false) 4 ∧ Var W (w.heap.size + 2) (.int .i64 (pre.length : Int)) 3 ∧ pre.length ≤ 2000 ∧ (nds pre).all Cr.ok = true ∧ Below w.heap.size w0 W
def GoodX (w w0 : World) (c : Code) (pre : List (NV w)) (W : World) : Prop :=
  c = .ret ∧ (2000 < (nds pre).length ∨ (nds pre).all Cr.ok = false) ∧ Var W (w.heap.size + 1) (.bool false) 4 ∧ Below w.heap.size w0 W
theorem GoodI.own {w w0 : World} (hw : w.heap.size ≤ w0.heap.size) : OwnFrom w0.heap.size (GoodI w w0) := by
  rintro q A B row ⟨h1, h2, h3, h4, h6⟩ hg hr
  exact ⟨Var.own _ _ _ _ () A B row h1 hg hr, Var.own _ _ _ _ () A B row h2 hg hr, h3, h4, ownFrom_below (β := Unit) hw hw () A B row h6 hg hr⟩
theorem GoodX.own {w w0 : World} (hw : w.heap.size ≤ w0.heap.size) (c : Code) : OwnFrom w0.heap.size (GoodX w w0 c) := by
  rintro q A B row ⟨h1, h2, h3, h4⟩ hg hr
  exact ⟨h1, h2, Var.own _ _ _ _ () A B row h3 hg hr, ownFrom_below (β := Unit) hw hw () A B row h4 hg hr⟩
/-- what stays through a round -/
def RoundG (w w0 : World) (bo bx : Nat) (o X : Obj) (v : Value) (W : World) : Prop :=
  Var W (w.heap.size + 1) (.bool false) 4 ∧ Var W (w.heap.size + 2) v 3 ∧ W.heap[bo]? = some o ∧ W.heap[bx]? = some X ∧ Below w.heap.size w0 W
theorem RoundG.still {w w0 : World} {bo bx : Nat} {o X : Obj} {v : Value} {W W' : World} (h : RoundG w w0 bo bx o X v W) (hn : w.heap.size ≤ W.heap.size) (hb : Below W.heap.size W W') : RoundG w w0 bo bx o X v W' :=
  ⟨h.1.below hb h.1.lt, h.2.1.below hb h.2.1.lt, block_below h.2.2.1 hb (block_lt h.2.2.1), block_below h.2.2.2.1 hb (block_lt h.2.2.2.1), h.2.2.2.2.trans (hb.mono hn)⟩
theorem RoundG.own {B : Nat} {w w0 : World} {bo bx : Nat} {o X : Obj} {v : Value} (ho : o.isCells = true) (hX : X.isCells = true) (hn : w.heap.size ≤ w0.heap.size) (hB : w.heap.size ≤ B) : OwnFrom B (fun (_ : Unit) W => RoundG w w0 bo bx o X v W) := by
  rintro q A B row ⟨h1, h2, h4, h5, h6⟩ hg hr
  exact ⟨Var.own _ _ _ _ () A B row h1 hg hr, Var.own _ _ _ _ () A B row h2 hg hr, ownFrom_block _ _ _ ho () A B row h4 hg hr, ownFrom_block _ _ _ hX () A B row h5 hg hr, ownFrom_below (β := Unit) hn hB () A B row h6 hg hr⟩
theorem RoundG.start {w w0 : World} {v : Value} {W : World} (h1 : Var W (w.heap.size + 1) (.bool false) 4) (h3 : Var W (w.heap.size + 2) v 3) (hb : Below w.heap.size w0 W) (hn : w.heap.size ≤ W.heap.size) (o X : Obj) :
    RoundG w w0 W.heap.size (W.heap.size + 1) o X v ((W.alloc o).alloc X) := by
  have hb1 : Below W.heap.size W (W.alloc o) := (Below.refl _ _).alloc (Nat.le_refl _) _
  have hb2 : Below W.heap.size W ((W.alloc o).alloc X) := hb1.alloc (by simp) _
  refine ⟨h1.below hb2 h1.lt, h3.below hb2 h3.lt, (Below.heap_alloc _ _ _ (by simp)).trans (World.alloc_heap_new W o), ?_, hb.trans (hb2.mono hn)⟩
  have h := World.alloc_heap_new (W.alloc o) X
  rw [World.size_alloc] at h; exact h
theorem RoundG.up {w w0 : World} {bo bx : Nat} {o X : Obj} {v : Value} {W : World} (h : RoundG w w0 bo bx o X v W) (h3 : bo ≠ w.heap.size + 2) (h4 : bx ≠ w.heap.size + 2) (u : Value) :
    RoundG w w0 bo bx o X u (W.setCell ⟨w.heap.size + 2, 0, none⟩ u) :=
  ⟨(Below.heap_setCell _ _ _ _ (show w.heap.size + 1 ≠ w.heap.size + 2 by omega)).trans h.1, h.2.1.set u, (Below.heap_setCell _ _ _ _ h3).trans h.2.2.1, (Below.heap_setCell _ _ _ _ h4).trans h.2.2.2.1, h.2.2.2.2.setCell (p := ⟨w.heap.size + 2, 0, none⟩) (Nat.le_add_right _ _) _⟩
/-- a round leaves with 'no' -/
theorem stopG {w w0 W3 W5 : World} {bo bx B : Nat} {o X : Obj} {v : Value} {pre : List (NV w)} (h5 : RoundG w w0 bo bx o X v W5) (hk : KeepsFrom B W3 W5) (hnone : 2000 < (nds pre).length ∨ (nds pre).all Cr.ok = false) (hne : bo ≠ w.heap.size + 1) :
    (KeepsFrom B W3 (W5.setCell ⟨w.heap.size + 1, 0, none⟩ (.bool false)) ∧ (W5.setCell ⟨w.heap.size + 1, 0, none⟩ (.bool false)).heap[bo]? = some o) ∧ GoodX w w0 .ret pre (W5.setCell ⟨w.heap.size + 1, 0, none⟩ (.bool false)) :=
  ⟨⟨hk.trans ((KeepsOthers.setCell _ _ _).from _), (Below.heap_setCell _ _ _ _ hne).trans h5.2.2.1⟩, rfl, hnone, h5.1.set _, h5.2.2.2.2.setCell (p := ⟨w.heap.size + 1, 0, none⟩) (Nat.le_succ _) _⟩
theorem nextG {w w0 W3 W5 : World} {bo bx B : Nat} {o X : Obj} {pre : List (NV w)} (h5 : RoundG w w0 bo bx o X (.int .i64 (pre.length : Int)) W5) (hk : KeepsFrom B W3 W5) (hle : pre.length ≤ 2000) (hf : (nds pre).all Cr.ok = true) :
    (KeepsFrom B W3 W5 ∧ W5.heap[bo]? = some o) ∧ GoodI w w0 pre W5 :=
  ⟨⟨hk, h5.2.2.1⟩, h5.1, h5.2.1, hle, hf, h5.2.2.2.2⟩
set_option maxHeartbeats 4000000 in
theorem good_walk {x : Cr} {cs : List Value} {w : World} (hat : Cr.at w x cs) :
    Calls Tryd.prog 34 #[.agg cs.toArray] w fun e w' => e = .returned (.bool (goodC x)) ∧ Below w.heap.size w w' := by
  have hcs : ∃ k s n a len cap, cs = [.int .i64 k, .int .u64 (word s 0), .int .u64 (word s 1), .int .u64 (word s 2), .int .u64 (word s 3), .int .i64 n, .slice a len cap] := by
    cases x with
    | mk k s n l =>
      rw [at_mk] at hat
      obtain ⟨_, _, a, cap, hcs, _, _⟩ := hat
      exact ⟨_, _, _, _, _, _, hcs⟩
  have hno := fun w' => (callsIn_wide (n := 2)).2 (nodes_walk hat w')
  obtain ⟨k, s, n, a, len, cap, hcs⟩ := hcs
  obtain ⟨w0, hw0⟩ : ∃ w0, w0 = (((w.alloc (.cells cs.toArray 28)).alloc (.cells #[.bool false] 4)).alloc (.cells #[.int .i64 0] 3)).alloc (.cells cs.toArray 28) := ⟨_, rfl⟩
  have hs0 : w0.heap.size = w.heap.size + 4 := by rw [hw0]; simp
  have hb0 : Below w.heap.size w w0 := by
    rw [hw0]
    exact ((((Below.refl _ _).alloc (Nat.le_refl _) _).alloc (by simp) _).alloc (by simp; omega) _).alloc (by simp; omega) _
  have h9 : Core7 w0 (w.heap.size + 1 + 1 + 1) 0 cs := by
    have h := World.alloc_heap_new (((w.alloc (.cells cs.toArray 28)).alloc (.cells #[.bool false] 4)).alloc (.cells #[.int .i64 0] 3)) (.cells cs.toArray 28)
    rw [← hw0] at h
    simp only [World.size_alloc] at h
    refine ⟨by rw [hcs]; rfl, fun q hq => ?_⟩
    simp [World.cell?, h]
  have hvar : Var w0 (w.heap.size + 2) (.int .i64 0) 3 := by
    rw [hw0]
    have h := Var.new ((w.alloc (.cells cs.toArray 28)).alloc (.cells #[.bool false] 4)) (.int .i64 0) 3
    rw [World.size_alloc, World.size_alloc] at h
    exact h.alloc _
  have hres : Var w0 (w.heap.size + 1) (.bool false) 4 := by
    rw [hw0]
    have h := Var.new (w.alloc (.cells cs.toArray 28)) (.bool false) 4
    rw [World.size_alloc] at h
    exact (h.alloc _).alloc _
  have hheld := nodes_held hat hb0 (Bx := w.heap.size + 1 + 1 + 1) (by omega) h9
  refine (callsIn_wide (n := 3)).1 ?_
  refine callsIn_of_wp_marks Tryd.func34 rfl trivial ?_ rfl
  subst hcs
  obtain ⟨R, hR⟩ : ∃ R, R = goodC x := ⟨_, rfl⟩
  rw [← hR]
  have HR := Lib.hid hR
  clear hR
  simp only [Tryd.ntmps34, List.size_toArray, List.length_cons, List.length_nil, Nat.reduceAdd, Nat.reduceSub, Array.replicate_succ, Array.replicate_zero, List.push_toArray, List.append_toArray, List.nil_append, List.cons_append]
  gi_wp2_with ((try refine ⟨trivial, ?_⟩); gi_at_call 50; refine (hno _).mono ?_; clear hno; rintro e w' ⟨rfl, rfl⟩)
  rw [← hw0]
  clear hw0 h9 hat
  refine wp_range_held (w := w0) rfl (enters_of Tryd.func68 (by kernel_rfl) rfl) hheld hb0.size (Below.refl _ _)
    (GoodI w w0) (GoodX w w0) (GoodI.own hb0.size) (GoodX.own hb0.size)
    (fun _ _ h => h.2.2.2.2) (fun _ _ _ h => h.2.2.2) ⟨hres, hvar, Nat.zero_le _, rfl, Below.refl _ _⟩ ?turn ?done ?stop
  case turn =>
    intro l m pre y W o K hI ho hlen hlt hK
    obtain ⟨⟨nd, ds⟩, hnd⟩ := y
    obtain ⟨k1, s1, n1, ls⟩ := nd
    have hnd2 := hnd
    rw [at_mk] at hnd
    obtain ⟨_, _, a1, cap1, hds, _, _⟩ := hnd
    obtain ⟨hI1, hI2, hI3, hI4, hI5⟩ := hI
    simp only at hds
    subst hds
    have hok : ∀ y : NV w, y.1.1 = Cr.mk k1 s1 n1 ls → (nds (pre ++ [y])).all Cr.ok = (blankC k1 s1 n1 && formedC k1 n1 ls.length) := fun y hy => by
      rw [nds_append, List.all_append, hI4, Bool.true_and, show nds [y] = [Cr.mk k1 s1 n1 ls] from by rw [← hy]; rfl]
      simp [Cr.ok, partOk_eq]
    have hok := hok ⟨(Cr.mk k1 s1 n1 ls, _), hnd2⟩ rfl
    have hpl : (nds (pre ++ [(⟨(Cr.mk k1 s1 n1 ls, _), hnd2⟩ : NV w)])).length = pre.length + 1 := by simp [nds]
    have hbl := fun W => blank_walk k1 s1 n1 a1 ls.length cap1 W
    have hfm := fun W => formed_walk k1 s1 n1 a1 ls.length cap1 W
    have hn0 : w.heap.size ≤ W.heap.size := by have := hb0.size; omega
    have hstart := RoundG.start hI1 hI2 hI5 hn0 o (.cells #[.int .i64 k1, .int .u64 (word s1 0), .int .u64 (word s1 1), .int .u64 (word s1 2), .int .u64 (word s1 3), .int .i64 n1, .slice a1 ls.length cap1] 28)
    have Hstart := Lib.hid hstart
    have Hok := Lib.hid hok
    have Hpl := Lib.hid hpl
    have Hlt := Lib.hid hlt
    have HI3 := Lib.hid hI3
    clear hok hpl hI1 hI2 hI3 hI4 hI5 hlt hstart hheld hvar hres
    gi_wp2
    refine hK _ _ ((KeepsOthers.alloc _ _).from _) fun W3 hto hs3 => ?_
    have hR3 := hto _ (RoundG.own ho rfl hb0.size hb0.size) Hstart.out
    have hsz3 : w.heap.size ≤ W3.heap.size := by rw [hs3]; simp; omega
    have hup := RoundG.up hR3 (show W.heap.size ≠ w.heap.size + 2 by have := Hlt.out; omega) (show W.heap.size + 1 ≠ w.heap.size + 2 by have := Hlt.out; omega) (.int .i64 ((pre.length : Int) + 1))
    have hcv := hR3.2.1.cell
    have hcX := cells_at hup.2.2.2.1
    have hcv2 := hup.2.1.cell
    have HR3 := Lib.hid hup
    have hne : W.heap.size ≠ w.heap.size + 1 := by have := Hlt.out; omega
    have hsu : (W3.setCell ⟨w.heap.size + 2, 0, none⟩ (.int .i64 ((pre.length : Int) + 1))).heap.size = W3.heap.size := by simp
    have HK3 : Hid (KeepsFrom w0.heap.size W3 (W3.setCell ⟨w.heap.size + 2, 0, none⟩ (.int .i64 ((pre.length : Int) + 1)))) := Lib.hid ((KeepsOthers.setCell _ _ _).from _)
    have hpb : pre.length ≤ 2000 := HI3.out
    clear hR3 hto hs3 hK hup
    have hdd : ∀ k : Nat, (Fence.wide.depth.isSome = true → 1 ≤ k) := fun k h => by cases h
    by_cases hbig : 2000 < pre.length + 1
    · have hd : decide (((pre.length : Int) + 1) > 2000) = true := by simp; omega
      have hd' : decide ((2000 : Int) < (pre.length : Int) + 1) = true := by simp; omega
      have Hbig := Lib.hid hbig
      have hc3 : (W3.setCell ⟨w.heap.size + 1 + 1, 0, none⟩ (.int .i64 ((pre.length : Int) + 1))).cell? ⟨w.heap.size + 1, 0, none⟩ = some (.bool false) ∧ (W3.setCell ⟨w.heap.size + 1 + 1, 0, none⟩ (.int .i64 ((pre.length : Int) + 1))).frozen? ⟨w.heap.size + 1, 0, none⟩ = false := HR3.out.1.cell
      obtain ⟨hc3a, hc3b⟩ := hc3
      clear hbig hbl hfm
      gi_wp2
      refine ⟨trivial, ?_⟩
      gi_wp2
      refine ⟨trivial, ?_⟩
      gi_wp2
      exact stopG HR3.out HK3.out (.inl (by rw [Hpl.out]; exact Hbig.out)) hne
    · have hd : decide (((pre.length : Int) + 1) > 2000) = false := by simp; omega
      have hd' : decide ((2000 : Int) < (pre.length : Int) + 1) = false := by simp; omega
      have Hbig := Lib.hid hbig
      clear hbig
      obtain ⟨b1, hb1⟩ : ∃ b, b = blankC k1 s1 n1 := ⟨_, rfl⟩
      obtain ⟨b2, hb2⟩ : ∃ b, b = formedC k1 n1 ls.length := ⟨_, rfl⟩
      rw [← hb1] at hbl
      rw [← hb2] at hfm
      have Hok2 := Hok.out
      rw [← hb1, ← hb2] at Hok2
      have Hok2 := Lib.hid Hok2
      clear hb1 hb2 Hok
      have hszU : w.heap.size ≤ (W3.setCell ⟨w.heap.size + 2, 0, none⟩ (.int .i64 ((pre.length : Int) + 1))).heap.size := by rw [hsu]; exact hsz3
      have HszU := Lib.hid hszU
      have hnext : ((pre ++ [(⟨(Cr.mk k1 s1 n1 ls, _), hnd2⟩ : NV w)]).length : Int) = (pre.length : Int) + 1 ∧ (pre ++ [(⟨(Cr.mk k1 s1 n1 ls, _), hnd2⟩ : NV w)]).length ≤ 2000 := by have := Hbig.out; simp; omega
      have Hnext := Lib.hid hnext
      clear hszU hnext hsz3 hsu
      cases b1 with
      | false =>
        clear hfm
        gi_wp2_with (refine ⟨trivial, hdd _, ?_⟩; gi_at_call 51; refine (CallsIn.inRound l (callsIn_wide.2 (hbl _))).mono ?_; clear hbl; rintro e W5 ⟨rfl, hb5⟩; have HR5 := Lib.hid (HR3.out.still HszU.out hb5); have hc5 := HR5.out.1.cell; have hd5 := HR5.out.2.1.cell; have hcX5 := cells_at HR5.out.2.2.2.1; have HB5 := Lib.hid (HK3.out.trans (keepsFrom_below hb5)); clear hb5 hcX hcv hcv2)
        refine ⟨trivial, ?_⟩
        gi_wp2
        exact stopG HR5.out HB5.out (.inr Hok2.out) hne
      | true =>
        cases b2 with
        | false =>
          gi_wp2_with (first
            | (refine ⟨trivial, hdd _, ?_⟩; gi_at_call 51; refine (CallsIn.inRound l (callsIn_wide.2 (hbl _))).mono ?_; clear hbl; rintro e W5 ⟨rfl, hb5⟩; have HR5 := Lib.hid (HR3.out.still HszU.out hb5); have hc5 := HR5.out.1.cell; have hd5 := HR5.out.2.1.cell; have hcX5 := cells_at HR5.out.2.2.2.1; have HB5 := Lib.hid (HK3.out.trans (keepsFrom_below hb5)); have HS5 := Lib.hid (Nat.le_trans HszU.out hb5.size); clear hb5 hcX hcv hcv2)
            | (refine ⟨trivial, hdd _, ?_⟩; gi_at_call 52; refine (CallsIn.inRound l (callsIn_wide.2 (hfm _))).mono ?_; clear hfm hcX5 hc5 hd5; rintro e W6 ⟨rfl, hb6⟩; have HR6 := Lib.hid (HR5.out.still HS5.out hb6); have hc6 := HR6.out.1.cell; have hd6 := HR6.out.2.1.cell; have hcX6 := cells_at HR6.out.2.2.2.1; have HB6 := Lib.hid (HB5.out.trans (keepsFrom_below hb6)); clear hb6))
          exact stopG HR6.out HB6.out (.inr Hok2.out) hne
        | true =>
          gi_wp2_with (first
            | (refine ⟨trivial, hdd _, ?_⟩; gi_at_call 51; refine (CallsIn.inRound l (callsIn_wide.2 (hbl _))).mono ?_; clear hbl; rintro e W5 ⟨rfl, hb5⟩; have HR5 := Lib.hid (HR3.out.still HszU.out hb5); have hc5 := HR5.out.1.cell; have hd5 := HR5.out.2.1.cell; have hcX5 := cells_at HR5.out.2.2.2.1; have HB5 := Lib.hid (HK3.out.trans (keepsFrom_below hb5)); have HS5 := Lib.hid (Nat.le_trans HszU.out hb5.size); clear hb5 hcX hcv hcv2)
            | (refine ⟨trivial, hdd _, ?_⟩; gi_at_call 52; refine (CallsIn.inRound l (callsIn_wide.2 (hfm _))).mono ?_; clear hfm hcX5 hc5 hd5; rintro e W6 ⟨rfl, hb6⟩; have HR6 := Lib.hid (HR5.out.still HS5.out hb6); have hc6 := HR6.out.1.cell; have hd6 := HR6.out.2.1.cell; have hcX6 := cells_at HR6.out.2.2.2.1; have HB6 := Lib.hid (HB5.out.trans (keepsFrom_below hb6)); clear hb6))
          have hR6 := HR6.out
          rw [← Hnext.out.1] at hR6
          exact nextG hR6 HB6.out Hnext.out.2 Hok2.out
  case done =>
    rintro D ys W hD hS ⟨hv, hc, hle, hall, hb⟩ hk
    have hRt : R = true := HR.out.trans (good_done hS (by simpa [nds] using hle) hall)
    have HV := Lib.hid hv
    have hcR := hv.cell
    clear hv hc hS hall hle
    subst hRt
    gi_wp2
    have hk' := (KeepsOthers.setCell W ⟨w.heap.size + 1, 0, none⟩ (.bool true)).same D _ hk rfl
    have hvs := HV.out.set (.bool true)
    refine ⟨by simp, .inl ⟨_, _, rfl, run_takeDeferred hk', ?_⟩⟩
    have hc5 := cell_kept hvs.cell.1 (grownBy_putObj' _ D (.deferred none)) (fun r e => by cases e; exact ⟨_, hk', rfl⟩)
    refine ⟨.bool true, ?_, rfl, ((hb0.trans hb).setCell (p := ⟨w.heap.size + 1, 0, none⟩) (Nat.le_succ _) _).trans (belowK_b (w := w) (Nat.le_refl _) _ D _ _ (by have := hb0.size; omega) hk' rfl rfl)⟩
    simp [results, Tryd.f34, go_sem, hc5]
  case stop =>
    rintro D c ys W hD hS ⟨rfl, hfold, hv, hb⟩ hk
    have hRf : R = false := HR.out.trans (good_stop hS hfold)
    gi_wp2
    refine ⟨by simp, .inl ⟨_, _, rfl, run_takeDeferred hk, ?_⟩⟩
    have hc5 := cell_kept hv.cell.1 (grownBy_putObj' _ D (.deferred none)) (fun r e => by cases e; exact ⟨_, hk, rfl⟩)
    refine ⟨.bool false, ?_, by rw [hRf], (hb0.trans hb).trans (belowK_b (w := w) (Nat.le_refl _) W D _ _ (by have := hb0.size; omega) hk rfl rfl)⟩
    simp [results, Tryd.f34, go_sem, hc5]
end K
end Go.Proofs.YtonhmjfopidacaaDoor
