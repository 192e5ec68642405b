/- tree.Good, walked. -/
import Derived.Test.YtlgpbgcheeaalaaGreatDoorTreeFold
import Derived.Test.YtlgpbgcheeaalaaGreatDoorTreeNodes
import Derived.Test.YtlgpbgcheeaalaaGreatDoorTreeDeep
namespace Go.Proofs.YtlgpbgcheeaalaaGreatDoor
set_option maxRecDepth 100000
open Go.RowKit Go.Shelf

attribute [local go_sem] Oper.semAt_some

theorem Var.below {B : Nat} {W W' : World} {b : Nat} {v : Value} {t : TypeId} (h : Var W b v t) (hb : Below B W W') (hlt : b < B) : Var W' b v t := (hb.block b hlt).trans h
theorem block_below {B : Nat} {W W' : World} {b : Nat} {o : Obj} (h : W.heap[b]? = some o) (hb : Below B W W') (hlt : b < B) : W'.heap[b]? = some o := (hb.block b hlt).trans h
theorem keepsFrom_below {B : Nat} {W W' : World} (h : Below W.heap.size W W') : KeepsFrom B W W' := ⟨h.size, fun k _ _ hk _ => (h.block k (Array.getElem?_eq_some_iff.1 hk).1).trans hk⟩
/-- what stays through a round of Good: the answer, the pattern, the number, and the two blocks of the round -/
def RoundF (n₀ : Nat) (w0 : World) (bR bP g bo bx : Nat) (P o X : Obj) (v : Value) (W : World) : Prop :=
  Var W bR (.bool false) 4 ∧ W.heap[bP]? = some P ∧ Var W g v 3 ∧ W.heap[bo]? = some o ∧ W.heap[bx]? = some X ∧ Below n₀ w0 W
theorem block_lt {W : World} {b : Nat} {o : Obj} (h : W.heap[b]? = some o) : b < W.heap.size := (Array.getElem?_eq_some_iff.1 h).1
theorem RoundF.still {n₀ : Nat} {w0 : World} {bR bP g bo bx : Nat} {P o X : Obj} {v : Value} {W W' : World} (h : RoundF n₀ w0 bR bP g bo bx P o X v W) (hn : n₀ ≤ W.heap.size) (hb : Below W.heap.size W W') : RoundF n₀ w0 bR bP g bo bx P o X v W' :=
  ⟨h.1.below hb h.1.lt, block_below h.2.1 hb (block_lt h.2.1), h.2.2.1.below hb h.2.2.1.lt, block_below h.2.2.2.1 hb (block_lt h.2.2.2.1), block_below h.2.2.2.2.1 hb (block_lt h.2.2.2.2.1), h.2.2.2.2.2.trans (hb.mono hn)⟩
def GoodI (w w0 : World) (g : Nat) (P : Obj) (pre : List (NV w)) (W : World) : Prop :=
  Var W (w.heap.size + 1) (.bool false) 4 ∧ W.heap[w.heap.size]? = some P ∧ (∃ nx : Nat, nx ≤ pre.length ∧ foldN (nds pre) 1 = some (nx + 1) ∧ Var W g (.int .i64 (nx : Int)) 3) ∧ Below w.heap.size w0 W
def GoodX (w w0 : World) (c : Code) (pre : List (NV w)) (W : World) : Prop :=
  c = .ret ∧ foldN (nds pre) 1 = none ∧ Var W (w.heap.size + 1) (.bool false) 4 ∧ Below w.heap.size w0 W
theorem GoodI.own {w w0 : World} {g : Nat} {P : Obj} (hP : P.isCells = true) (hw : w.heap.size ≤ w0.heap.size) : OwnFrom w0.heap.size (GoodI w w0 g P) := by
  rintro q A B row ⟨h1, h2, ⟨nx, h3, h4, h5⟩, h6⟩ hg hr
  exact ⟨Var.own _ _ _ _ () A B row h1 hg hr, ownFrom_block _ _ _ hP () A B row h2 hg hr, ⟨nx, h3, h4, Var.own _ _ _ _ () A B row h5 hg hr⟩, ownFrom_below (β := Unit) hw hw () A B row h6 hg hr⟩
theorem GoodX.own {w w0 : World} (hw : w.heap.size ≤ w0.heap.size) (c : Code) : OwnFrom w0.heap.size (GoodX w w0 c) := by
  rintro q A B row ⟨h1, h2, h3, h4⟩ hg hr
  exact ⟨h1, h2, Var.own _ _ _ _ () A B row h3 hg hr, ownFrom_below (β := Unit) hw hw () A B row h4 hg hr⟩
theorem RoundF.own {n₀ B : Nat} {w0 : World} {bR bP g bo bx : Nat} {P o X : Obj} {v : Value} (hP : P.isCells = true) (ho : o.isCells = true) (hX : X.isCells = true) (hn : n₀ ≤ w0.heap.size) (hB : n₀ ≤ B) : OwnFrom B (fun (_ : Unit) W => RoundF n₀ w0 bR bP g bo bx P o X v W) := by
  rintro q A B row ⟨h1, h2, h3, h4, h5, h6⟩ hg hr
  exact ⟨Var.own _ _ _ _ () A B row h1 hg hr, ownFrom_block _ _ _ hP () A B row h2 hg hr, Var.own _ _ _ _ () A B row h3 hg hr, ownFrom_block _ _ _ ho () A B row h4 hg hr, ownFrom_block _ _ _ hX () A B row h5 hg hr, ownFrom_below (β := Unit) hn hB () A B row h6 hg hr⟩
theorem RoundF.start {n₀ : Nat} {w0 : World} {bR bP g : Nat} {P : Obj} {v : Value} {W : World} (h1 : Var W bR (.bool false) 4) (h2 : W.heap[bP]? = some P) (h3 : Var W g v 3) (hb : Below n₀ w0 W) (hn : n₀ ≤ W.heap.size) (o X : Obj) :
    RoundF n₀ w0 bR bP g W.heap.size (W.heap.size + 1) P o X v ((W.alloc o).alloc X) := by
  have hb1 : Below W.heap.size W (W.alloc o) := (Below.refl _ _).alloc (Nat.le_refl _) _
  have hb2 : Below W.heap.size W ((W.alloc o).alloc X) := hb1.alloc (by simp) _
  refine ⟨h1.below hb2 h1.lt, block_below h2 hb2 (block_lt h2), h3.below hb2 h3.lt, (Below.heap_alloc _ _ _ (by simp)).trans (World.alloc_heap_new W o), ?_, hb.trans (hb2.mono hn)⟩
  have h := World.alloc_heap_new (W.alloc o) X
  rw [World.size_alloc] at h; exact h
/-- a round of Good leaves with 'no' -/
theorem stop_post {w w0 W3 W5 : World} {bP g bo bx B : Nat} {P o X : Obj} {v : Value} {pre : List (NV w)} (h5 : RoundF w.heap.size w0 (w.heap.size + 1) bP g bo bx P o X v W5) (hk : KeepsFrom B W3 W5) (hnone : foldN (nds pre) 1 = none) (hne : bo ≠ w.heap.size + 1) :
    (KeepsFrom B W3 (W5.setCell ⟨w.heap.size + 1, 0, none⟩ (.bool false)) ∧ (W5.setCell ⟨w.heap.size + 1, 0, none⟩ (.bool false)).heap[bo]? = some o) ∧ GoodX w w0 .ret pre (W5.setCell ⟨w.heap.size + 1, 0, none⟩ (.bool false)) :=
  ⟨⟨hk.trans ((KeepsOthers.setCell _ _ _).from _), (Below.heap_setCell _ _ _ _ hne).trans h5.2.2.2.1⟩, rfl, hnone, h5.1.set _, h5.2.2.2.2.2.setCell (p := ⟨w.heap.size + 1, 0, none⟩) (Nat.le_succ _) _⟩
/-- a round of Good goes on -/
theorem next_post {w w0 W3 W5 : World} {g bo bx B : Nat} {P o X : Obj} {nx : Nat} {pre : List (NV w)} (h5 : RoundF w.heap.size w0 (w.heap.size + 1) w.heap.size g bo bx P o X (.int .i64 (nx : Int)) W5) (hk : KeepsFrom B W3 W5) (hle : nx ≤ pre.length) (hf : foldN (nds pre) 1 = some (nx + 1)) :
    (KeepsFrom B W3 W5 ∧ W5.heap[bo]? = some o) ∧ GoodI w w0 g P pre W5 :=
  ⟨⟨hk, h5.2.2.2.1⟩, h5.1, h5.2.1, ⟨nx, hle, hf, h5.2.2.1⟩, h5.2.2.2.2.2⟩
/-- the number goes up -/
theorem RoundF.up {n₀ : Nat} {w0 : World} {bR bP g bo bx : Nat} {P o X : Obj} {v : Value} {W : World} (h : RoundF n₀ w0 bR bP g bo bx P o X v W) (h1 : bR ≠ g) (h2 : bP ≠ g) (h3 : bo ≠ g) (h4 : bx ≠ g) (hn : n₀ ≤ g) (u : Value) :
    RoundF n₀ w0 bR bP g bo bx P o X u (W.setCell ⟨g, 0, none⟩ u) :=
  ⟨(Below.heap_setCell _ _ _ _ h1).trans h.1, (Below.heap_setCell _ _ _ _ h2).trans h.2.1, h.2.2.1.set u, (Below.heap_setCell _ _ _ _ h3).trans h.2.2.2.1, (Below.heap_setCell _ _ _ _ h4).trans h.2.2.2.2.1, h.2.2.2.2.2.setCell (p := ⟨g, 0, none⟩) hn _⟩
theorem foldN_snoc {l : List Nd} {next nx : Nat} (h : foldN l next = some nx) (x : Nd) : foldN (l ++ [x]) next = stepN nx x := by
  rw [foldN_append, h]
  show (stepN nx x).bind (foldN []) = _
  cases stepN nx x <;> rfl
theorem cells_at {W : World} {b : Nat} {vs : Array Value} {t : TypeId} (h : W.heap[b]? = some (.cells vs t)) (q : Nat) : W.cell? ⟨b, q, none⟩ = vs[q]? := by simp [World.cell?, h]
/-- the cells of a pattern -/
def patCells (st en : Bool) (cs : List Value) (gr : Int) : List Value := .bool st :: .bool en :: (cs ++ [.int .i64 gr])
theorem good_deep {x : Nd} {gr : Int} (h : 2000 < sizeOfN x ∨ 64 < depthOfN x) : goodP x gr = false := by
  unfold sizeOfN depthOfN at h
  unfold goodP
  by_cases h1 : x.count ≤ 2000
  · rw [decide_eq_false (show ¬ x.deep ≤ 64 from by omega), Bool.and_false, Bool.false_and]
  · rw [decide_eq_false h1, Bool.false_and, Bool.false_and]
theorem good_fold {x : Nd} {gr : Int} (h1 : ¬ 2000 < sizeOfN x) (h2 : ¬ 64 < depthOfN x) : goodP x gr = (match foldN x.pre 1 with | some m => gr == (m : Int) - 1 && decide (gr ≤ 32) | none => false) ∧ x.pre.take 100000 = x.pre := by
  unfold sizeOfN at h1
  unfold depthOfN at h2
  refine ⟨?_, List.take_of_length_le (by rw [Nd.pre_length]; omega)⟩
  unfold goodP
  rw [decide_eq_true (show x.count ≤ 2000 from by omega), decide_eq_true (show x.deep ≤ 64 from by omega), fold_pre]
  rfl
set_option maxRecDepth 100000 in
set_option maxHeartbeats 4000000 in
theorem good_walk {x : Nd} {cs : List Value} {w : World} (st en : Bool) (gr : Int) (hat : Nd.at w x cs) :
    Calls Tryz.prog 55 #[.agg (patCells st en cs gr).toArray] w fun e w' => e = .returned (.bool (goodP x gr)) ∧ Below w.heap.size w w' := by
  have hcs := at_cells hat
  obtain ⟨s, lo, hi, n, a, cap, _, hcs⟩ := hcs
  generalize hk : x.kind = k at hcs
  generalize hlen : x.nodes.length = len at hcs
  clear hk hlen
  have hpc : patCells st en cs gr = [.bool st, .bool en, .int .i64 k, .int .u64 (word s 0), .int .u64 (word s 1), .int .u64 (word s 2), .int .u64 (word s 3), .int .i64 lo, .int .i64 hi, .int .i64 n, .slice a len cap, .int .i64 gr] := by rw [hcs]; rfl
  rw [hpc]
  clear hpc
  -- the world behind the two boxes
  obtain ⟨wA, hwA⟩ : ∃ wA, wA = ((w.alloc (.cells #[.bool st, .bool en, .int .i64 k, .int .u64 (word s 0), .int .u64 (word s 1), .int .u64 (word s 2), .int .u64 (word s 3), .int .i64 lo, .int .i64 hi, .int .i64 n, .slice a len cap, .int .i64 gr] 70)).alloc (.cells #[.bool false] 4)) := ⟨_, rfl⟩
  have hsA : wA.heap.size = w.heap.size + 2 := by rw [hwA]; simp
  have hbA : Below w.heap.size w wA := by rw [hwA]; exact ((Below.refl _ _).alloc (Nat.le_refl _) _).alloc (by simp) _
  have hpA : wA.heap[w.heap.size]? = some (.cells #[.bool st, .bool en, .int .i64 k, .int .u64 (word s 0), .int .u64 (word s 1), .int .u64 (word s 2), .int .u64 (word s 3), .int .i64 lo, .int .i64 hi, .int .i64 n, .slice a len cap, .int .i64 gr] 70) := by
    rw [hwA]; exact (Below.heap_alloc _ _ _ (by simp)).trans (World.alloc_heap_new w _)
  have hrA : Var wA (w.heap.size + 1) (.bool false) 4 := by
    rw [hwA]
    have h := Var.new (w.alloc (.cells #[.bool st, .bool en, .int .i64 k, .int .u64 (word s 0), .int .u64 (word s 1), .int .u64 (word s 2), .int .u64 (word s 3), .int .i64 lo, .int .i64 hi, .int .i64 n, .slice a len cap, .int .i64 gr] 70)) (.bool false) 4
    rw [World.size_alloc] at h; exact h
  have hsz := size_walk (Nd.at_below hbA (Nat.le_refl _) _ _ hat)
  have hdp := fun (w1 : World) (h1 : Below wA.heap.size wA w1) => Depth_any (Nd.at_below (hbA.trans (h1.mono hbA.size)) (Nat.le_refl _) _ _ hat)
  have hsz2 := hsz.mono (R' := fun e w1 => e = .returned (.int .i64 (sizeOfN x : Int)) ∧ Below wA.heap.size wA w1 ∧ (∀ q, w1.cell? ⟨w.heap.size, q, none⟩ = (#[.bool st, .bool en, .int .i64 k, .int .u64 (word s 0), .int .u64 (word s 1), .int .u64 (word s 2), .int .u64 (word s 3), .int .i64 lo, .int .i64 hi, .int .i64 n, .slice a len cap, .int .i64 gr] : Array Value)[q]?) ∧ w1.cell? ⟨w.heap.size + 1, 0, none⟩ = some (.bool false) ∧ w1.frozen? ⟨w.heap.size + 1, 0, none⟩ = false)
    (fun e w1 h => ⟨h.1, h.2, cells_at (block_below hpA h.2 (by omega)), (hrA.below h.2 (by omega)).cell.1, (hrA.below h.2 (by omega)).cell.2⟩)
  have hszI := (callsIn_wide (n := 2)).2 hsz2
  clear hsz hsz2
  have hdpI := fun (w1 : World) (h1 : Below wA.heap.size wA w1) => (callsIn_wide (n := 2)).2 ((hdp w1 h1).mono (R' := fun e w2 => e = .returned (.int .i64 (depthOfN x : Int)) ∧ Below wA.heap.size wA w2 ∧ (∀ q, w2.cell? ⟨w.heap.size, q, none⟩ = (#[.bool st, .bool en, .int .i64 k, .int .u64 (word s 0), .int .u64 (word s 1), .int .u64 (word s 2), .int .u64 (word s 3), .int .i64 lo, .int .i64 hi, .int .i64 n, .slice a len cap, .int .i64 gr] : Array Value)[q]?) ∧ w2.cell? ⟨w.heap.size + 1, 0, none⟩ = some (.bool false) ∧ w2.frozen? ⟨w.heap.size + 1, 0, none⟩ = false)
    (fun e w2 h => ⟨h.1, h1.trans (h.2.mono h1.size), cells_at (block_below hpA (h1.trans (h.2.mono h1.size)) (by omega)), (hrA.below (h1.trans (h.2.mono h1.size)) (by omega)).cell.1, (hrA.below (h1.trans (h.2.mono h1.size)) (by omega)).cell.2⟩))
  clear hdp
  rw [hcs] at hszI hdpI
  generalize hRs : (fun (e : Ending) (w1 : World) => e = .returned (.int .i64 (sizeOfN x : Int)) ∧ Below wA.heap.size wA w1 ∧ _) = Rs at hszI
  rw [hwA] at hszI
  subst hRs
  have hgd := fun h => good_deep (x := x) (gr := gr) h
  have hgf := fun h1 h2 => good_fold (x := x) (gr := gr) h1 h2
  have hsn : 0 ≤ (sizeOfN x : Int) := by omega
  have hdn : 0 ≤ (depthOfN x : Int) := by omega
  have hs2 : decide ((2000 : Int) < (sizeOfN x : Int)) = decide (2000 < sizeOfN x) := by rw [Bool.eq_iff_iff]; simp; omega
  have hd2 : decide ((64 : Int) < (depthOfN x : Int)) = decide (64 < depthOfN x) := by rw [Bool.eq_iff_iff]; simp; omega
  generalize sizeOfN x = S at *
  generalize depthOfN x = D at *
  have Hcs := Lib.hid hcs
  have HwA := Lib.hid hwA
  have Hat := Lib.hid hat
  have HpA := Lib.hid hpA
  have HrA := Lib.hid hrA
  have HsA := Lib.hid hsA
  have HbA := Lib.hid hbA
  clear hcs hwA hat hpA hrA hsA hbA
  obtain ⟨R, hR⟩ : ∃ R, R = goodP x gr := ⟨_, rfl⟩
  rw [← hR]
  refine (callsIn_wide (n := 3)).1 ?_
  refine callsIn_of_wp_marks Tryz.func55 rfl trivial ?_ rfl
  simp only [Tryz.ntmps55, List.size_toArray, List.length_cons, List.length_nil, Nat.reduceAdd, Nat.reduceSub, Array.replicate_succ, Array.replicate_zero, List.push_toArray, List.append_toArray, List.nil_append, List.cons_append]
  by_cases hbig : 2000 < S
  · rw [decide_eq_true hbig] at hs2
    have HR : Hid (R = false) := hR.trans (hgd (.inl hbig))
    clear hgd hgf hR hbig hdpI hd2
    gi_wp2_with ((try refine ⟨trivial, ?_⟩); gi_at_call 63; refine hszI.mono ?_; clear hszI; rintro e w1 ⟨rfl, hb1, hc1, hr1, hf1⟩)
    refine ⟨trivial, ?_⟩
    gi_wp2
    have hv := (HrA.out.below hb1 (by rw [HsA.out]; omega)).set (.bool false)
    have hc := hv.cell.1
    refine ⟨.bool false, ?_, by rw [HR.out], ?_⟩
    · simp [results, Tryz.f55, go_sem, hc]
    · exact HbA.out.trans ((hb1.mono HbA.out.size).setCell (p := ⟨w.heap.size + 1, 0, none⟩) (Nat.le_succ _) _)
  rw [decide_eq_false hbig] at hs2
  by_cases hdeep : 64 < D
  · rw [decide_eq_true hdeep] at hd2
    have HR : Hid (R = false) := hR.trans (hgd (.inr hdeep))
    clear hgd hgf hR hbig hdeep
    gi_wp2_with (first
      | (refine ⟨trivial, ?_⟩; gi_at_call 63; refine hszI.mono ?_; clear hszI; rintro e w1 ⟨rfl, hb1, hc1, hr1, hf1⟩; have hdpJ := hdpI w1 hb1; clear hdpI; have Hb1 := Lib.hid hb1; clear hb1)
      | (refine ⟨trivial, ?_⟩; gi_at_call 87; refine hdpJ.mono ?_; clear hdpJ hc1 hr1 hf1; rintro e w2 ⟨rfl, hb2, hc2, hr2, hf2⟩))
    have hv := (HrA.out.below hb2 (by rw [HsA.out]; omega)).set (.bool false)
    have hc := hv.cell.1
    refine ⟨.bool false, ?_, by rw [HR.out], ?_⟩
    · simp [results, Tryz.f55, go_sem, hc]
    · exact HbA.out.trans ((hb2.mono HbA.out.size).setCell (p := ⟨w.heap.size + 1, 0, none⟩) (Nat.le_succ _) _)
  rw [decide_eq_false hdeep] at hd2
  obtain ⟨hgd1, hgd2⟩ := hgf hbig hdeep
  rw [hgd1] at hR
  have HR := Lib.hid hR
  have Htake := Lib.hid hgd2
  clear hgd hgf hbig hdeep hgd1 hgd2 hR
  have hno := fun (w' : World) => (callsIn_wide (n := 2)).2 (nodes_walk Hat.out w')
  have Hcs2 := Hcs
  unfold Hid at Hcs2
  rw [Hcs2] at hno
  clear Hcs2
  gi_wp2_with (first
    | (refine ⟨trivial, ?_⟩; gi_at_call 63; refine hszI.mono ?_; clear hszI; rintro e w1 ⟨rfl, hb1, hc1, hr1, hf1⟩; have hdpJ := hdpI w1 hb1; clear hdpI; have Hb1 := Lib.hid hb1; clear hb1)
    | (refine ⟨trivial, ?_⟩; gi_at_call 87; refine hdpJ.mono ?_; clear hdpJ hc1 hr1 hf1; rintro e w2 ⟨rfl, hb2, hc2, hr2, hf2⟩; have hlt2 : w.heap.size + 2 ≤ w2.heap.size := (by have := hb2.size; have := HsA.out; omega); have hc3 := fun (o : Obj) (q : Nat) => ((Below.refl w2.heap.size w2).alloc (Nat.le_refl _) o).cell (p := ⟨w.heap.size, q, none⟩) (Nat.lt_of_lt_of_le (Nat.lt_succ_of_lt (Nat.lt_succ_self _)) hlt2); have Hb2 := Lib.hid hb2; clear hb2)
    | (refine ⟨trivial, ?_⟩; gi_at_call 88; refine (hno _).mono ?_; clear hno; rintro e w' ⟨rfl, rfl⟩))
  have hB2 := HbA.out.trans (Hb2.out.mono HbA.out.size)
  obtain ⟨w0, hw0⟩ : ∃ w0, w0 = (w2.alloc (.cells #[.int .i64 0] 3)).alloc (.cells cs.toArray 39) := ⟨_, rfl⟩
  have hs0 : w0.heap.size = w2.heap.size + 2 := by rw [hw0]; simp
  have hb20 : Below w2.heap.size w2 w0 := by rw [hw0]; exact ((Below.refl _ _).alloc (Nat.le_refl _) _).alloc (by simp) _
  have hb0 : Below w.heap.size w w0 := hB2.trans (hb20.mono hB2.size)
  have h9 : Node9 w0 (w2.heap.size + 1) 0 cs := by
    have h := World.alloc_heap_new (w2.alloc (.cells #[.int .i64 0] 3)) (.cells cs.toArray 39)
    rw [← hw0] at h
    simp only [World.size_alloc] at h
    refine ⟨by rw [Hcs.out]; rfl, fun q hq => ?_⟩
    simp [World.cell?, h]
  have hvG : Var w0 w2.heap.size (.int .i64 0) 3 := by rw [hw0]; exact (Var.new w2 (.int .i64 0) 3).alloc _
  have hvR : Var w0 (w.heap.size + 1) (.bool false) 4 := (HrA.out.below Hb2.out (by have := HsA.out; omega)).below hb20 (by omega)
  have hPP := block_below (block_below HpA.out Hb2.out (by have := HsA.out; omega)) hb20 (by omega)
  have hheld := nodes_held Hat.out hb0 (Bx := w2.heap.size + 1) (by omega) h9
  rw [Hcs.out] at hw0
  rw [← hw0]
  generalize hPo : (Obj.cells #[.bool st, .bool en, .int .i64 k, .int .u64 (word s 0), .int .u64 (word s 1), .int .u64 (word s 2), .int .u64 (word s 3), .int .i64 lo, .int .i64 hi, .int .i64 n, .slice a len cap, .int .i64 gr] 70) = PB at hPP
  have hPc : PB.isCells = true := by rw [← hPo]; rfl
  have HPo := Lib.hid hPo
  clear hw0 h9 hPo hc2 hr2 hf2 hc3
  refine wp_range_held (w := w0) rfl (enters_of Tryz.func107 (by kernel_rfl) rfl) hheld hb0.size (Below.refl _ _)
    (GoodI w w0 w2.heap.size PB) (GoodX w w0) (GoodI.own hPc hb0.size) (GoodX.own hb0.size)
    (fun _ _ h => h.2.2.2) (fun _ _ _ h => h.2.2.2) ⟨hvR, hPP, ⟨0, Nat.zero_le _, rfl, hvG⟩, Below.refl _ _⟩ ?turn ?done ?stop
  case turn =>
    intro l m pre y W o K hI ho hlen hlt hK
    obtain ⟨⟨nd, ds⟩, hnd⟩ := y
    obtain ⟨k1, s1, lo1, hi1, n1, ls⟩ := nd
    have hnd2 := hnd
    rw [at_mk] at hnd
    obtain ⟨_, _, _, _, a1, cap1, hds, _, _⟩ := hnd
    obtain ⟨hI1, hI2, ⟨nx, hnx, hfold, hvar⟩, hI4⟩ := hI
    have hds2 := hds
    simp only at hds
    subst hds
    have hst := stepN_mk (nx + 1) k1 s1 lo1 hi1 n1 ls
    have hfs := foldN_snoc hfold (.mk k1 s1 lo1 hi1 n1 ls)
    have hbl := fun W => blank_walk k1 s1 lo1 hi1 n1 a1 ls.length cap1 W
    have hfm := fun W hW => formed_walk hnd2 W hW
    have hn0 : w.heap.size ≤ W.heap.size := by have := hb0.size; omega
    have hg0 : w2.heap.size < W.heap.size := by omega
    have hstart := RoundF.start hI1 hI2 hvar hI4 hn0 o (.cells #[.int .i64 k1, .int .u64 (word s1 0), .int .u64 (word s1 1), .int .u64 (word s1 2), .int .u64 (word s1 3), .int .i64 lo1, .int .i64 hi1, .int .i64 n1, .slice a1 ls.length cap1] 39)
    have Hstart := Lib.hid hstart
    have Hst := Lib.hid hst
    have Hfs := Lib.hid hfs
    have Hlt := Lib.hid hlt
    clear hnd2 hds2 hst hfs hfold hvar hI1 hI2 hI4 hlt hstart hheld hPP hvR hvG
    gi_wp2
    refine hK _ _ ((KeepsOthers.alloc _ _).from _) fun W3 hto hs3 => ?_
    have hR3 := hto _ (RoundF.own hPc ho rfl hb0.size hb0.size) Hstart.out
    have hsz3 : w.heap.size ≤ W3.heap.size := by rw [hs3]; simp; omega
    have hcX := cells_at hR3.2.2.2.2.1
    have HR3 := Lib.hid hR3
    have hbl := hbl W3
    have hne : W.heap.size ≠ w.heap.size + 1 := by omega
    have hfold : ∀ y : NV w, y.1.1 = Nd.mk k1 s1 lo1 hi1 n1 ls → foldN (nds (pre ++ [y])) 1 = (if (blankN k1 s1 lo1 hi1 n1 && formedN k1 s1 lo1 hi1 ls) = true then (if k1 = 5 then (if n1 = ((nx + 1 : Nat) : Int) then some (nx + 1 + 1) else none) else some (nx + 1)) else none) := fun y hy => by
      rw [nds_append, show nds [y] = [Nd.mk k1 s1 lo1 hi1 n1 ls] from by rw [← hy]; rfl]
      exact Hfs.out.trans Hst.out
    have Hfold := Lib.hid hfold
    have hnb : (nx : Int) ≤ 100000 := by omega
    clear hR3 hto hs3 hK hfold hb20
    generalize blankN k1 s1 lo1 hi1 n1 = b1 at *
    generalize formedN k1 s1 lo1 hi1 ls = b2 at *
    have hdd : ∀ k : Nat, (Fence.wide.depth.isSome = true → 1 ≤ k) := fun k h => by cases h
    cases b1 with
    | false =>
      clear hfm
      gi_wp2_with (refine ⟨trivial, hdd _, ?_⟩; gi_at_call 89; refine (CallsIn.inRound l (callsIn_wide.2 hbl)).mono ?_; clear hbl; rintro e W5 ⟨rfl, hb5⟩; have HR5 := Lib.hid (HR3.out.still hsz3 hb5); have hc5 := HR5.out.1.cell; have hcX5 := cells_at HR5.out.2.2.2.2.1; have HB5 := Lib.hid hb5; clear hb5 hcX)
      · obtain ⟨hc51, hc52⟩ := hc5
        refine ⟨trivial, ?_⟩
        gi_wp2
        exact stop_post HR5.out (keepsFrom_below HB5.out) (Hfold.out _ rfl) hne
    | true =>
      cases b2 with
      | false =>
        gi_wp2_with (first
          | (refine ⟨trivial, hdd _, ?_⟩; gi_at_call 89; refine (CallsIn.inRound l (callsIn_wide.2 hbl)).mono ?_; clear hbl; rintro e W5 ⟨rfl, hb5⟩; have HR5 := Lib.hid (HR3.out.still hsz3 hb5); have hc5 := HR5.out.1.cell; have hcX5 := cells_at HR5.out.2.2.2.2.1; have HB5 := Lib.hid hb5; have hfm5 := hfm W5 (hb0.trans HR5.out.2.2.2.2.2); clear hb5 hcX)
          | (refine ⟨trivial, hdd _, ?_⟩; gi_at_call 90; refine (CallsIn.inRound l (callsIn_wide.2 hfm5)).mono ?_; clear hfm5 hcX5 hc5; rintro e W6 ⟨rfl, hb6⟩; have HR6 := Lib.hid (HR5.out.still (Nat.le_trans hsz3 HB5.out.size) hb6); have hc6 := HR6.out.1.cell; have hg6 := HR6.out.2.2.1.cell; have hcX6 := cells_at HR6.out.2.2.2.2.1; have HB6 := Lib.hid (HB5.out.trans (hb6.mono HB5.out.size)); clear hb6))
        exact stop_post HR6.out (keepsFrom_below HB6.out) (Hfold.out _ rfl) hne
      | true =>
        by_cases hk5 : k1 = 5
        · have e5 : (k1 == 5) = true := by simp [hk5]
          have Hk5 := Lib.hid hk5
          clear hk5
          by_cases hn5 : n1 = (nx : Int) + 1
          · have n5 : (n1 != (nx : Int) + 1) = false := by simp [hn5]
            have n6 : (n1 == (nx : Int) + 1) = true := by simp [hn5]
            have Hn5 := Lib.hid hn5
            clear hn5
            gi_wp2_with (first
              | (refine ⟨trivial, hdd _, ?_⟩; gi_at_call 89; refine (CallsIn.inRound l (callsIn_wide.2 hbl)).mono ?_; clear hbl; rintro e W5 ⟨rfl, hb5⟩; have HR5 := Lib.hid (HR3.out.still hsz3 hb5); have hc5 := HR5.out.1.cell; have hcX5 := cells_at HR5.out.2.2.2.2.1; have HB5 := Lib.hid hb5; have hfm5 := hfm W5 (hb0.trans HR5.out.2.2.2.2.2); clear hb5 hcX)
              | (refine ⟨trivial, hdd _, ?_⟩; gi_at_call 90; refine (CallsIn.inRound l (callsIn_wide.2 hfm5)).mono ?_; clear hfm5 hcX5 hc5; rintro e W6 ⟨rfl, hb6⟩; have HR6 := Lib.hid (HR5.out.still (Nat.le_trans hsz3 HB5.out.size) hb6); have hc6 := HR6.out.1.cell; have hg6 := HR6.out.2.2.1.cell; have hcX6 := cells_at HR6.out.2.2.2.2.1; have HB6 := Lib.hid (HB5.out.trans (hb6.mono HB5.out.size)); clear hb6))
            have hup := RoundF.up HR6.out (show w.heap.size + 1 ≠ w2.heap.size from by omega) (show w.heap.size ≠ w2.heap.size from by omega) (show W.heap.size ≠ w2.heap.size from by omega) (show W.heap.size + 1 ≠ w2.heap.size from by omega) (by omega) (.int .i64 ((nx : Int) + 1))
            rw [show ((nx : Int) + 1) = ((nx + 1 : Nat) : Int) from by omega] at hup ⊢
            refine next_post hup ((keepsFrom_below HB6.out).trans ((KeepsOthers.setCell _ _ _).from _)) (by simp; omega) ?_
            refine (Hfold.out _ rfl).trans ?_
            have h := Hk5.out
            have h2 := Hn5.out
            simp [h, h2]
          · have n5 : (n1 != (nx : Int) + 1) = true := by simp [bne, hn5]
            have n6 : (n1 == (nx : Int) + 1) = false := by simp [hn5]
            have Hn5 := Lib.hid hn5
            clear hn5
            gi_wp2_with (first
              | (refine ⟨trivial, hdd _, ?_⟩; gi_at_call 89; refine (CallsIn.inRound l (callsIn_wide.2 hbl)).mono ?_; clear hbl; rintro e W5 ⟨rfl, hb5⟩; have HR5 := Lib.hid (HR3.out.still hsz3 hb5); have hc5 := HR5.out.1.cell; have hcX5 := cells_at HR5.out.2.2.2.2.1; have HB5 := Lib.hid hb5; have hfm5 := hfm W5 (hb0.trans HR5.out.2.2.2.2.2); clear hb5 hcX)
              | (refine ⟨trivial, hdd _, ?_⟩; gi_at_call 90; refine (CallsIn.inRound l (callsIn_wide.2 hfm5)).mono ?_; clear hfm5 hcX5 hc5; rintro e W6 ⟨rfl, hb6⟩; have HR6 := Lib.hid (HR5.out.still (Nat.le_trans hsz3 HB5.out.size) hb6); have hc6 := HR6.out.1.cell; have hg6 := HR6.out.2.2.1.cell; have hcX6 := cells_at HR6.out.2.2.2.2.1; have HB6 := Lib.hid (HB5.out.trans (hb6.mono HB5.out.size)); clear hb6))
            have hup := RoundF.up HR6.out (show w.heap.size + 1 ≠ w2.heap.size from by omega) (show w.heap.size ≠ w2.heap.size from by omega) (show W.heap.size ≠ w2.heap.size from by omega) (show W.heap.size + 1 ≠ w2.heap.size from by omega) (by omega) (.int .i64 ((nx : Int) + 1))
            refine stop_post hup ((keepsFrom_below HB6.out).trans ((KeepsOthers.setCell _ _ _).from _)) ?_ hne
            refine (Hfold.out _ rfl).trans ?_
            have h := Hk5.out
            have h2 := Hn5.out
            simp [h, h2]
        · have e5 : (k1 == 5) = false := by simp [hk5]
          have Hk5 := Lib.hid hk5
          clear hk5
          gi_wp2_with (first
            | (refine ⟨trivial, hdd _, ?_⟩; gi_at_call 89; refine (CallsIn.inRound l (callsIn_wide.2 hbl)).mono ?_; clear hbl; rintro e W5 ⟨rfl, hb5⟩; have HR5 := Lib.hid (HR3.out.still hsz3 hb5); have hc5 := HR5.out.1.cell; have hcX5 := cells_at HR5.out.2.2.2.2.1; have HB5 := Lib.hid hb5; have hfm5 := hfm W5 (hb0.trans HR5.out.2.2.2.2.2); clear hb5 hcX)
            | (refine ⟨trivial, hdd _, ?_⟩; gi_at_call 90; refine (CallsIn.inRound l (callsIn_wide.2 hfm5)).mono ?_; clear hfm5 hcX5 hc5; rintro e W6 ⟨rfl, hb6⟩; have HR6 := Lib.hid (HR5.out.still (Nat.le_trans hsz3 HB5.out.size) hb6); have hc6 := HR6.out.1.cell; have hg6 := HR6.out.2.2.1.cell; have hcX6 := cells_at HR6.out.2.2.2.2.1; have HB6 := Lib.hid (HB5.out.trans (hb6.mono HB5.out.size)); clear hb6))
          refine next_post HR6.out (keepsFrom_below HB6.out) (by simp; omega) ?_
          refine (Hfold.out _ rfl).trans ?_
          have h := Hk5.out
          simp [h]
  case done =>
    rintro E ys W hE hS ⟨hv, hP, ⟨nx, hnx, hfold, hvar⟩, hb⟩ hk
    have hcP := hP
    rw [← HPo.out] at hcP
    have hcP := cells_at hcP
    have hcG := hvar.cell
    have hcR := hv.cell
    have hRv : R = (((nx : Int) == gr) && decide ((nx : Int) ≤ 32)) := by
      rw [HR.out, ← Htake.out, ← show nds ys = x.pre.take 100000 from hS, hfold]
      show (gr == ((nx + 1 : Nat) : Int) - 1 && decide (gr ≤ 32)) = _
      by_cases h : (nx : Int) = gr
      · rw [← h]; simp
      · rw [show ((nx : Int) == gr) = false from by simp [h], show (gr == ((nx + 1 : Nat) : Int) - 1) = false from by simp; omega]; rfl
    have HRv := Lib.hid hRv
    have HV := Lib.hid hv
    clear hRv hfold hP hvar hv hS
    generalize hb1 : ((nx : Int) == gr) = b1
    generalize hb2 : decide ((nx : Int) ≤ 32) = b2
    rw [hb1, hb2] at HRv
    cases b1 <;> cases b2 <;> (
      gi_wp2
      have hk' := (KeepsOthers.setCell W ⟨w.heap.size + 1, 0, none⟩ (.bool R)).same E _ hk rfl
      have hvs := HV.out.set (.bool R)
      have hre : R = _ := HRv.out
      simp only [Bool.and_self, Bool.and_false, Bool.and_true] at hre
      rw [hre] at hk' hvs ⊢
      refine ⟨by simp, .inl ⟨_, _, rfl, run_takeDeferred hk', ?_⟩⟩
      have hc5 := cell_kept hvs.cell.1 (grownBy_putObj' _ E (.deferred none)) (fun r e => by cases e; exact ⟨_, hk', rfl⟩)
      refine ⟨.bool _, ?_, rfl, ((hb0.trans hb).setCell (p := ⟨w.heap.size + 1, 0, none⟩) (Nat.le_succ _) _).trans (belowK_b (w := w) (Nat.le_refl _) _ E _ _ (by have := hb0.size; omega) hk' rfl rfl)⟩
      simp [results, Tryz.f55, go_sem, hc5])
  case stop =>
    rintro E c ys W hE hS ⟨rfl, hfold, hv, hb⟩ hk
    have hRf : R = false := by
      rw [HR.out, foldN_prefix (l := nds ys) (m := x.pre) (by rw [← Htake.out]; exact hS) hfold]
    gi_wp2
    refine ⟨by simp, .inl ⟨_, _, rfl, run_takeDeferred hk, ?_⟩⟩
    have hc5 := cell_kept hv.cell.1 (grownBy_putObj' _ E (.deferred none)) (fun r e => by cases e; exact ⟨_, hk, rfl⟩)
    refine ⟨.bool false, ?_, by rw [hRf], (hb0.trans hb).trans (belowK_b (w := w) (Nat.le_refl _) W E _ _ (by have := hb0.size; omega) hk rfl rfl)⟩
    simp [results, Tryz.f55, go_sem, hc5]
end Go.Proofs.YtlgpbgcheeaalaaGreatDoor
