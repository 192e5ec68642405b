/- The law TreeSays, walked: any pattern, any node. -/
import Derived.Test.YtaanhijjhllckaaRefGood5
import Derived.Test.YtaanhijjhllckaaRefSets5
import Derived.Test.YtaanhijjhllckaaRefSame5
import Derived.Test.YtaanhijjhllckaaTreeSets
import Derived.Test.YtaanhijjhllckaaLawTreeParts
import Derived.Deep.DeepCutAuto
namespace Go.Proofs.Ytaanhijjhllckaa
set_option maxRecDepth 100000
open Go.RowKit
theorem goodP_own (x : Nd) (gr : Int) : goodP x gr = (decide (x.count ≤ 2000) && decide (x.deep ≤ 64) && okG gr (x.form 1) && decide (gr ≤ 32)) := by
  unfold goodP
  cases x.form 1 with
  | none => simp [okG]
  | some m =>
    rw [okG_some]
    by_cases h : gr = (m : Int) - 1
    · simp [h]
    · simp [h]
theorem slim_of_heavy : ∀ (f : Nat) (x : Nd), heavyN f x = false → slimN f x = true
  | 0, _, h => by rw [heavyN] at h; cases h
  | f + 1, .mk _ _ _ _ _ l, h => by
    rw [heavyN, Bool.or_eq_false_iff, decide_eq_false_iff_not, List.any_eq_false] at h
    rw [slimN, Bool.and_eq_true, decide_eq_true_eq, List.all_eq_true]
    exact ⟨by omega, fun y hy => slim_of_heavy f y (by simpa using h.2 y hy)⟩
theorem eqlr_one (f : Nat → Bool) (w : World) : (Op.equalIn 10000 33 (BV f) (BV f)).run Try.prog w = .ok true w := by
  rw [eql_ref]; congr 1; simp
theorem wpList_load_pat {ops : Array Oper} {rest : List Oper} {o : Oper} {a : Act} {w : World} {Q : Exit → Act → World → Prop} (hgd : o.guard = none) (x : Operand) (ho : o.op = .load 29 x)
    (b : Nat) (cs : List Value) (hx : a.eval x = .pointer (some ⟨b, 0, none⟩)) (hc : Pat12 w b cs)
    (h : wpList Try.prog ops Q rest (a.put o.dst (.agg cs.toArray)) w) : wpList Try.prog ops Q (o :: rest) a w :=
  wpList_plain hgd fun _ hK => by
    unfold Oper.wp execOp
    simp only [ho, hx, Instr.loadAt, Instr.sureAddr, Sem.run_bind, Sem.run_pure, Result.andThen_ok, loadPat hc]
    exact hK _ _ h
theorem loadRefPat {w : World} {b : Nat} {C : Array Value} (h : PBox w b C) (hC : C.size = 264) : (loadVar 38 ⟨b, 0, none⟩).run Try.prog w = .ok (.agg C) w :=
  run_loadVar_row w b _ _ C _ _ h Try.underlying38 rfl (infoRefPat' hC)
theorem wpList_load_refpat {ops : Array Oper} {rest : List Oper} {o : Oper} {a : Act} {w : World} {Q : Exit → Act → World → Prop} (hgd : o.guard = none) (x : Operand) (ho : o.op = .load 38 x)
    (b : Nat) (C : Array Value) (hx : a.eval x = .pointer (some ⟨b, 0, none⟩)) (hC : C.size = 264) (hc : PBox w b C)
    (h : wpList Try.prog ops Q rest (a.put o.dst (.agg C)) w) : wpList Try.prog ops Q (o :: rest) a w :=
  wpList_plain hgd fun _ hK => by
    unfold Oper.wp execOp
    simp only [ho, hx, Instr.loadAt, Instr.sureAddr, Sem.run_bind, Sem.run_pure, Result.andThen_ok, loadRefPat hc hC]
    exact hK _ _ h
theorem quiet_load_refpat {o : Oper} {a : Act} {C : World → Prop} {K : Act → Prop} (x : Operand) (ho : o.op = .load 38 x) (b : Nat) (cs : Array Value) (hx : a.eval x = .pointer (some ⟨b, 0, none⟩)) (hs : cs.size = 264)
    (h : ∀ w, C w → PBox w b cs) (hK : K (a.put o.dst (.agg cs))) : o.quiet Try.prog a C K :=
  ⟨.agg cs, fun w hw => by
    unfold Oper.quietAt execOp
    simp only [ho, hx, Instr.loadAt, Instr.sureAddr, Sem.run_bind, Sem.run_pure, Result.andThen_ok, loadRefPat (h w hw) hs]
    exact ⟨rfl, rfl⟩, hK⟩
theorem rp_all {w : World} {x : Nd} {rs : List Value} (h : Nd.ref w x rs) (st en : Bool) (gr : Int) : ((rpCells st en rs gr).toArray.all fun x => x.oneCell') = true := by
  obtain ⟨k, s, lo, hi, n, a, len, cap, rfl⟩ := ref_form h
  exact rp_one st en k s lo hi n a len cap gr
theorem st3 {a b c : World} (h : Below a.heap.size a b) (h' : Below b.heap.size b c) : Below a.heap.size a c := h.trans (h'.mono h.size)
theorem owns_shape {w : World} {base size n : Nat} {t : TypeId} {v : Value} {xs : List Value} (h : w.ownsRow base t size v n xs) : ∃ a cap, v = .slice a n cap := by
  rcases h.2 with ⟨rfl, h0⟩ | ⟨g, cap, _, hv, _⟩
  · exact ⟨none, 0, by rw [h0]⟩
  · exact ⟨_, cap, hv⟩
set_option maxHeartbeats 64000000 in
theorem treeSays_walk (st en : Bool) (x : Nd) (cs : List Value) (gr : Int) (wg : fits64 gr) (y : Nd) (ds : List Value) (w : World) (hat : Nd.at w x cs) (hay : Nd.at w y ds) :
    Calls Try.prog 3 #[.agg (.bool st :: .bool en :: (cs ++ [.int .i64 gr])).toArray, .agg ds.toArray] w fun e w' => e = .returned (.bool true) ∧ Below w.heap.size w w' := by
  obtain ⟨c0, c1, c2, c3, c4, c5, c6, c7, c8, rfl⟩ : ∃ c0 c1 c2 c3 c4 c5 c6 c7 c8, cs = [c0, c1, c2, c3, c4, c5, c6, c7, c8] := by
    match cs, at_len hat with
    | [c0, c1, c2, c3, c4, c5, c6, c7, c8], _ => exact ⟨_, _, _, _, _, _, _, _, _, rfl⟩
  obtain ⟨d0, d1, d2, d3, d4, d5, d6, d7, d8, rfl⟩ : ∃ d0 d1 d2 d3 d4 d5 d6 d7 d8, ds = [d0, d1, d2, d3, d4, d5, d6, d7, d8] := by
    match ds, at_len hay with
    | [d0, d1, d2, d3, d4, d5, d6, d7, d8], _ => exact ⟨_, _, _, _, _, _, _, _, _, rfl⟩
  have hz := zeroRefPat
  have hzs := zero264_size
  obtain ⟨Z, hZ⟩ : ∃ Z, Z = zero264 := ⟨_, rfl⟩
  rw [← hZ] at hz hzs
  obtain ⟨W, hW⟩ : ∃ W, W = (w.alloc (.cells #[.bool st, .bool en, c0, c1, c2, c3, c4, c5, c6, c7, c8, .int .i64 gr] 29)).alloc (.cells #[d0, d1, d2, d3, d4, d5, d6, d7, d8] 27) := ⟨_, rfl⟩
  have hbW : Below w.heap.size w W := by rw [hW]; exact ((Below.refl _ _).alloc (Nat.le_refl _) _).alloc (by simp) _
  have hsW : W.heap.size = w.heap.size + 1 + 1 := by rw [hW]; simp
  have hp : W.heap[w.heap.size]? = some (.cells #[.bool st, .bool en, c0, c1, c2, c3, c4, c5, c6, c7, c8, .int .i64 gr] 29 (0, 0)) := by rw [hW]; exact (Below.heap_alloc _ _ _ (by simp)).trans (World.alloc_heap_new w _)
  have hq : W.heap[w.heap.size + 1]? = some (.cells #[d0, d1, d2, d3, d4, d5, d6, d7, d8] 27 (0, 0)) := by
    have h := World.alloc_heap_new (w.alloc (.cells #[.bool st, .bool en, c0, c1, c2, c3, c4, c5, c6, c7, c8, .int .i64 gr] 29)) (.cells #[d0, d1, d2, d3, d4, d5, d6, d7, d8] 27)
    rw [World.size_alloc] at h
    rw [hW]; exact h
  have hP : ∀ w', Below W.heap.size W w' → w'.heap[w.heap.size]? = some (.cells #[.bool st, .bool en, c0, c1, c2, c3, c4, c5, c6, c7, c8, .int .i64 gr] 29 (0, 0)) := fun w' h => (h.block _ (by omega)).trans hp
  have hQ : ∀ w', Below W.heap.size W w' → w'.heap[w.heap.size + 1]? = some (.cells #[d0, d1, d2, d3, d4, d5, d6, d7, d8] 27 (0, 0)) := fun w' h => (h.block _ (by omega)).trans hq
  have HP12 : Hid (∀ w', Below W.heap.size W w' → Pat12 w' w.heap.size [.bool st, .bool en, c0, c1, c2, c3, c4, c5, c6, c7, c8, .int .i64 gr]) := Lib.hid (fun w' h => cells12 (hP w' h) rfl)
  have HN9 : Hid (∀ w', Below W.heap.size W w' → Node9 w' w.heap.size 2 [c0, c1, c2, c3, c4, c5, c6, c7, c8]) := Lib.hid (fun w' h => cells9at2 (hP w' h) [c0, c1, c2, c3, c4, c5, c6, c7, c8] rfl (root_cells (.bool st) (.bool en) c0 c1 c2 c3 c4 c5 c6 c7 c8 (.int .i64 gr)))
  have HD9 : Hid (∀ w', Below W.heap.size W w' → Node9 w' (w.heap.size + 1) 0 [d0, d1, d2, d3, d4, d5, d6, d7, d8]) := Lib.hid (fun w' h => ⟨rfl, fun q hq => by rw [Nat.zero_add, cells_at (hQ w' h)]; simp⟩)
  have HA : Hid (∀ w', Below W.heap.size W w' → Nd.at w' x [c0, c1, c2, c3, c4, c5, c6, c7, c8]) := Lib.hid fun w' h => Nd.at_below (hbW.trans (h.mono hbW.size)) (Nat.le_refl _) _ _ hat
  have HAy : Hid (∀ w', Below W.heap.size W w' → Nd.at w' y [d0, d1, d2, d3, d4, d5, d6, d7, d8]) := Lib.hid fun w' h => Nd.at_below (hbW.trans (h.mono hbW.size)) (Nat.le_refl _) _ _ hay
  have Hhx := Lib.hid (fun w' (h : Below W.heap.size W w') => heavy_any 70 x [c0, c1, c2, c3, c4, c5, c6, c7, c8] w' (by decide) (HA.out w' h))
  have Hhy := Lib.hid (fun w' (h : Below W.heap.size W w') => heavy_any 70 y [d0, d1, d2, d3, d4, d5, d6, d7, d8] w' (by decide) (HAy.out w' h))
  have HbW := Lib.hid hbW
  have Hzs := Lib.hid hzs
  have Haw := Lib.hid awake5_any
  have Hwg := Lib.hid wg
  clear hbW hsW hp hq hP hQ hat hay hzs hZ wg
  cases B0 : heavyN 70 x with
  | true =>
    rw [B0] at Hhx
    go_enter Try.func3, Try.ntmps3
    go_upto_region 1 with fail
    rw [← hW]
    clear hW
    go_wp2_with fail
    refine (Haw.out _).mono ?_
    rintro e W1 ⟨rfl, hb1⟩
    have Hb1 := Lib.hid hb1
    clear hb1
    go_wp2_with (first
      | (refine wpList_load_node rfl _ rfl w.heap.size 2 [c0, c1, c2, c3, c4, c5, c6, c7, c8] rfl (HN9.out _ Hb1.out) ?_)
      | fail)
    refine (Hhx.out _ Hb1.out).mono ?_
    rintro e W2 ⟨rfl, hb2⟩
    have Hb2 := Lib.hid (Hb1.out.trans (hb2.mono Hb1.out.size))
    clear hb2
    go_wp2_with fail
    go_ret
    exact ⟨rfl, HbW.out.trans (Hb2.out.mono HbW.out.size)⟩
  | false =>
  have Hslx := Lib.hid (slim_of_heavy 70 x B0)
  rw [B0] at Hhx
  cases B1 : heavyN 70 y with
  | true =>
    rw [B1] at Hhy
    go_enter Try.func3, Try.ntmps3
    go_upto_region 1 with fail
    rw [← hW]
    clear hW
    go_wp2_with fail
    refine (Haw.out _).mono ?_
    rintro e W1 ⟨rfl, hb1⟩
    have Hb1 := Lib.hid hb1
    clear hb1
    go_wp2_with (first
      | (refine wpList_load_node rfl _ rfl w.heap.size 2 [c0, c1, c2, c3, c4, c5, c6, c7, c8] rfl (HN9.out _ Hb1.out) ?_)
      | fail)
    refine (Hhx.out _ Hb1.out).mono ?_
    rintro e W2 ⟨rfl, hb2⟩
    have Hb2 := Lib.hid (Hb1.out.trans (hb2.mono Hb1.out.size))
    clear hb2
    go_wp2_with (first
      | (refine wpList_load_node_want rfl _ rfl (w.heap.size + 1) 0 [d0, d1, d2, d3, d4, d5, d6, d7, d8] rfl (HD9.out _ Hb2.out) ?_)
      | fail)
    refine (Hhy.out _ Hb2.out).mono ?_
    rintro e W3 ⟨rfl, hb3⟩
    have Hb3 := Lib.hid (Hb2.out.trans (hb3.mono Hb2.out.size))
    clear hb3
    go_wp2_with fail
    go_ret
    exact ⟨rfl, HbW.out.trans (Hb3.out.mono HbW.out.size)⟩
  | false =>
  have Hsly := Lib.hid (slim_of_heavy 70 y B1)
  rw [B1] at Hhy
  clear B0 B1
  have Hpat : Hid (∀ w', Below W.heap.size W w' → Calls Try.prog 6 #[.agg #[.bool st, .bool en, c0, c1, c2, c3, c4, c5, c6, c7, c8, .int .i64 gr]] w' fun e w2 => ∃ rs : List Value, e = .returned (.agg (rpCells st en rs gr).toArray) ∧ Nd.ref w2 x rs ∧ Below w'.heap.size w' w2) := Lib.hid fun w' h => lawPattern_any 70 x [c0, c1, c2, c3, c4, c5, c6, c7, c8] st en gr w' Hslx.out (HA.out w' h)
  go_enter Try.func3, Try.ntmps3
  go_upto_region 1 with fail
  rw [← hW]
  clear hW
  go_wp2_with fail
  refine (Haw.out _).mono ?_
  rintro e W1 ⟨rfl, hb1⟩
  have Hb1 := Lib.hid hb1
  clear hb1
  go_wp2_with (first
    | (refine wpList_load_node rfl _ rfl w.heap.size 2 [c0, c1, c2, c3, c4, c5, c6, c7, c8] rfl (HN9.out _ Hb1.out) ?_)
    | fail)
  refine (Hhx.out _ Hb1.out).mono ?_
  rintro e W2 ⟨rfl, hb2⟩
  have Hb2 := Lib.hid (Hb1.out.trans (hb2.mono Hb1.out.size))
  clear hb2
  go_wp2_with (first
    | (refine wpList_load_node_want rfl _ rfl (w.heap.size + 1) 0 [d0, d1, d2, d3, d4, d5, d6, d7, d8] rfl (HD9.out _ Hb2.out) ?_)
    | fail)
  refine (Hhy.out _ Hb2.out).mono ?_
  rintro e W3 ⟨rfl, hb3⟩
  have Hb3 := Lib.hid (Hb2.out.trans (hb3.mono Hb2.out.size))
  clear hb3
  go_upto_region 6 with (first
    | (refine wpList_load_pat rfl _ rfl w.heap.size [.bool st, .bool en, c0, c1, c2, c3, c4, c5, c6, c7, c8, .int .i64 gr] rfl (HP12.out _ Hb3.out) ?_)
    | (go_at_call 6; refine (Hpat.out _ Hb3.out).mono ?_; rintro e w4 ⟨rs, rfl, hrs, hb4⟩; have hC1 : (rpCells st en rs gr).toArray.size = 264 := (by rw [List.size_toArray]; exact rp_length (ref_len hrs)); have hone := rp_all hrs st en gr; have Hrs := Lib.hid hrs; have Hb4 := Lib.hid (Hb3.out.trans (hb4.mono Hb3.out.size)); clear hrs hb4; obtain ⟨C, hC⟩ : ∃ C, C = (rpCells st en rs gr).toArray := ⟨_, rfl⟩; rw [← hC] at hC1 hone ⊢; have HC := Lib.hid hC; have HC1 := Lib.hid hC1; have Hone := Lib.hid hone; clear hC hC1 hone)
    | (refine wpList_store_row rfl 38 _ _ rfl w4.heap.size _ rfl rfl _ _ (World.alloc_heap_new _ _) (infoRefPat' HC1.out) (by rw [HC1.out, Hzs.out]) Hone.out ?_; refine Hid.out ?_)
    | fail)
  refine Lib.hid ?_
  have hpb0 : PBox (w4.alloc (.cells Z 38)) w4.heap.size Z := World.alloc_heap_new _ _
  have hpb5 : PBox ((w4.alloc (.cells Z 38)).setRow w4.heap.size C) w4.heap.size C := setRow_heap _ _ _ _ _ _ hpb0
  have hb5 : Below w4.heap.size w4 ((w4.alloc (.cells Z 38)).setRow w4.heap.size C) := below_row ((Below.refl _ _).alloc (Nat.le_refl _) _) (Nat.le_refl _) _
  generalize (w4.alloc (.cells Z 38)).setRow w4.heap.size C = w5 at hpb5 hb5 ⊢
  have Hb5 := Lib.hid (st3 Hb4.out hb5)
  have HPB : Hid (∀ w', Below w5.heap.size w5 w' → PBox w' w4.heap.size C) := Lib.hid fun w' h => (h.block _ (Array.getElem?_eq_some_iff.1 hpb5).1).trans hpb5
  have HRr : Hid (∀ w', Below w5.heap.size w5 w' → Nd.ref w' x rs) := Lib.hid fun w' h => Nd.ref_below (st3 hb5 h) Hrs.out
  have HRoot : Hid (∀ w', Below w5.heap.size w5 w' → Ref261 w' w4.heap.size 2 rs) := Lib.hid fun w' h => rp_root (ref_len Hrs.out) (by have h2 := HPB.out w' h; rw [HC.out] at h2; exact h2)
  have HLow : Hid (∀ w', Below w5.heap.size w5 w' → Below W.heap.size W w') := Lib.hid fun w' h => st3 Hb5.out h
  have HG : Hid (∀ w', Below w5.heap.size w5 w' → Calls Try.prog 7 #[.agg C] w' fun e w2 => e = .returned (.bool (goodP x gr)) ∧ Below w'.heap.size w' w2) := Lib.hid fun w' h => by
    rw [HC.out, goodP_own]; exact refGood5_any x rs w' st en gr (HRr.out _ h) Hwg.out
  have HGt : Hid (∀ w', Below w5.heap.size w5 w' → Calls Try.prog 11 #[.agg #[.bool st, .bool en, c0, c1, c2, c3, c4, c5, c6, c7, c8, .int .i64 gr]] w' fun e w2 => e = .returned (.bool (goodP x gr)) ∧ Below w'.heap.size w' w2) := Lib.hid fun w' h => by
    have h2 := good_walk st en gr (HA.out _ (HLow.out _ h))
    rw [show patCells st en [c0, c1, c2, c3, c4, c5, c6, c7, c8] gr = [.bool st, .bool en, c0, c1, c2, c3, c4, c5, c6, c7, c8, .int .i64 gr] from rfl] at h2
    exact h2
  have HSz : Hid (∀ w', Below w5.heap.size w5 w' → Calls Try.prog 12 #[.agg #[c0, c1, c2, c3, c4, c5, c6, c7, c8]] w' fun e w2 => e = .returned (.int .i64 (sizeOfN x : Nat)) ∧ Below w'.heap.size w' w2) := Lib.hid fun w' h => size_walk (HA.out _ (HLow.out _ h))
  have HSr : Hid (∀ w', Below w5.heap.size w5 w' → Calls Try.prog 13 #[.agg rs.toArray, .int .i64 100000] w' fun e w2 => e = .returned (.int .i64 (sizeOfN x : Nat)) ∧ Below w'.heap.size w' w2) := Lib.hid fun w' h => refSize_any x.count x rs w' 100000 (Nat.le_refl _) (by decide) (HRr.out _ h)
  have HDp : Hid (∀ w', Below w5.heap.size w5 w' → Calls Try.prog 14 #[.agg #[c0, c1, c2, c3, c4, c5, c6, c7, c8]] w' fun e w2 => e = .returned (.int .i64 (depthOfN x : Nat)) ∧ Below w'.heap.size w' w2) := Lib.hid fun w' h => Depth_any (HA.out _ (HLow.out _ h))
  have HDr : Hid (∀ w', Below w5.heap.size w5 w' → Calls Try.prog 15 #[.agg rs.toArray, .int .i64 64] w' fun e w2 => e = .returned (.int .i64 (depthOfN x : Nat)) ∧ Below w'.heap.size w' w2) := Lib.hid fun w' h => refDepth_any 64 x rs w' (by decide) (HRr.out _ h)
  have HSm : Hid (∀ w', Below w5.heap.size w5 w' → Calls Try.prog 16 #[.agg #[c0, c1, c2, c3, c4, c5, c6, c7, c8], .agg #[d0, d1, d2, d3, d4, d5, d6, d7, d8]] w' fun e w2 => e = .returned (.bool (x.same y)) ∧ Below w'.heap.size w' w2) := Lib.hid fun w' h => same_any x.count x y _ _ w' (Nat.le_refl _) (HA.out _ (HLow.out _ h)) (HAy.out _ (HLow.out _ h))
  have HSmr : Hid (∀ (ys : List Value) (w' : World), Below w5.heap.size w5 w' → Nd.ref w' y ys → Calls Try.prog 17 #[.agg rs.toArray, .agg ys.toArray] w' fun e w2 => e = .returned (.bool (x.same y)) ∧ Below w'.heap.size w' w2) := Lib.hid fun ys w' h hy => refSameN_any x.count x y rs ys w' (Nat.le_refl _) (HRr.out _ h) hy
  have HNd : Hid (∀ w', Below w5.heap.size w5 w' → Calls Try.prog 18 #[.agg #[d0, d1, d2, d3, d4, d5, d6, d7, d8]] w' fun e w2 => ∃ ys : List Value, e = .returned (.agg ys.toArray) ∧ Nd.ref w2 y ys ∧ Below w'.heap.size w' w2) := Lib.hid fun w' h => (lawNode_any 70 y _ w' Hsly.out (HAy.out _ (HLow.out _ h))).mono fun e w2 ⟨ys, e1, e2, e3⟩ => ⟨ys, e1, e2.ref, e3⟩
  have HGood : Hid (goodP x gr = true → x.count ≤ 2000 ∧ accN (x.pre.take 100000) [] = x.sets) := Lib.hid fun h => ⟨(good_size h).1, (at_root_count h).2.2⟩
  have HSt := Lib.hid (fun w' (h : Below w5.heap.size w5 w') => sets_walk (HA.out _ (HLow.out _ h)))
  have HStr := Lib.hid (fun w' (h : Below w5.heap.size w5 w') => refSetsTop_any x rs w' (HRr.out _ h))
  clear hpb0 hpb5 hb5 hz
  generalize goodP x gr = gd at *
  generalize sizeOfN x = sz at *
  generalize depthOfN x = dp at *
  generalize x.same y = sm at *
  have H55 := Lib.hid (Below.refl w5.heap.size w5)
  go_wp2_with (first
    | (refine wpList_load_refpat rfl _ rfl w4.heap.size C rfl HC1.out (HPB.out _ H55.out) ?_)
    | fail)
  refine (HG.out _ H55.out).mono ?_
  rintro e w6 ⟨rfl, hb6⟩
  have HB := Lib.hid hb6
  clear hb6
  cases gd with
  | false =>
    go_upto_region 15 with fail
    obtain ⟨wd, hwd⟩ : ∃ wd, wd = w6.drew := ⟨_, rfl⟩
    have hKd : Below w6.heap.size w6 wd := by rw [hwd]; exact (Below.refl _ _).drew
    have hNE := HeldW.nonempty (S := fun w' => Below w6.heap.size w6 w') hKd
    refine wp_region_hold (fun w' => Below w6.heap.size w6 w') (.plain 0 (.plain 2 (.sole 1 (.sole 3 (.plain 4 (.plain 5 (.plain 6 (.plain 7 (.plain 9 (.plain 10 (.sole 8 (.sole 11 (.plain 12 (.plain 13 (.plain 14 (.plain 15 (.plain 16 (.plain 18 (.plain 19 (.sole 17 (.sole 20 (.plain 21 (.plain 22 (.plain 23 (.plain 24 (.plain 25 (.plain 26 (.plain 28 (.plain 29 (.plain 30 (.sole 27 (.sole 31 (.sole 32 (.plain 33 (.plain 34 (.plain 35 .done)))))))))))))))))))))))))))))))))))) (by rw [← hwd]; exact hKd) (by kernel_rfl) (by kernel_rfl) (fun c a d v w h => by cases d <;> exact h) ?_
    rw [← hwd]
    clear hwd
    repeat (first
        | (refine' hold_skip ?_ ?_ ?_
           rotate_left 1
           · simp only [List.getElem?_toArray, List.getElem?_cons_zero, List.getElem?_cons_succ]; exact rfl
           · exact rfl
           simp only [Act.put, List.setIfInBounds_toArray, List.set_cons_zero, List.set_cons_succ])
        | (refine' hold_want ?_ ?_ (fun J hJ => ?_)
           rotate_left 1
           · simp only [List.getElem?_toArray, List.getElem?_cons_zero, List.getElem?_cons_succ]; exact rfl
           · exact rfl
           first
           | (refine quiet_load_pat _ rfl w.heap.size [.bool st, .bool en, c0, c1, c2, c3, c4, c5, c6, c7, c8, .int .i64 gr] rfl (fun w' ⟨L, hL⟩ => hL ▸ HP12.out _ (HLow.out _ (st3 HB.out L.ok))) ?_; refine hJ _ ?_; clear hJ J; try simp only [Act.put, List.setIfInBounds_toArray, List.set_cons_zero, List.set_cons_succ])
           | (refine quiet_load_refpat _ rfl w4.heap.size C rfl HC1.out (fun w' ⟨L, hL⟩ => hL ▸ HPB.out _ (st3 HB.out L.ok)) ?_; refine hJ _ ?_; clear hJ J; try simp only [Act.put, List.setIfInBounds_toArray, List.set_cons_zero, List.set_cons_succ])
           | (refine quiet_load_node9 _ rfl w.heap.size 2 [c0, c1, c2, c3, c4, c5, c6, c7, c8] rfl (fun w' ⟨L, hL⟩ => hL ▸ HN9.out _ (HLow.out _ (st3 HB.out L.ok))) ?_; refine hJ _ ?_; clear hJ J; try simp only [Act.put, List.setIfInBounds_toArray, List.set_cons_zero, List.set_cons_succ])
           | (refine quiet_load_node9 _ rfl (w.heap.size + 1) 0 [d0, d1, d2, d3, d4, d5, d6, d7, d8] rfl (fun w' ⟨L, hL⟩ => hL ▸ HD9.out _ (HLow.out _ (st3 HB.out L.ok))) ?_; refine hJ _ ?_; clear hJ J; try simp only [Act.put, List.setIfInBounds_toArray, List.set_cons_zero, List.set_cons_succ])
           | (refine quiet_load_refnode5 _ rfl w4.heap.size 2 rs rfl (fun w' ⟨L, hL⟩ => hL ▸ HRoot.out _ (st3 HB.out L.ok)) ?_; refine hJ _ ?_; clear hJ J; try simp only [Act.put, List.setIfInBounds_toArray, List.set_cons_zero, List.set_cons_succ])
           | (refine quiet_extract _ _ rfl _ _ rfl rfl ?_; refine hJ _ ?_; clear hJ J; try simp only [Act.put, List.setIfInBounds_toArray, List.set_cons_zero, List.set_cons_succ])
           | (go_big_quiet_op; refine hJ _ ?_; clear hJ J; try simp only [Act.put, List.setIfInBounds_toArray, List.set_cons_zero, List.set_cons_succ])))
    refine' hold_sole ?_ ?_ (fun J hJ => ?_)
    rotate_left 1
    · simp only [List.getElem?_toArray, List.getElem?_cons_zero, List.getElem?_cons_succ]; exact rfl
    · exact rfl
    go_simp
    refine (HGt.out _ (st3 HB.out hKd)).mono ?_
    rintro e w21 ⟨rfl, hb21⟩
    have hK21 : Below w6.heap.size w6 w21 := st3 hKd hb21
    refine hJ _ _ hK21 ?_
    clear hJ J hb21
    try simp only [Act.put, List.setIfInBounds_toArray, List.set_cons_zero, List.set_cons_succ]
    refine' hold_sole ?_ ?_ (fun J hJ => ?_)
    rotate_left 1
    · simp only [List.getElem?_toArray, List.getElem?_cons_zero, List.getElem?_cons_succ]; exact rfl
    · exact rfl
    go_simp
    refine (HG.out _ (st3 HB.out hK21)).mono ?_
    rintro e w22 ⟨rfl, hb22⟩
    have hK22 : Below w6.heap.size w6 w22 := st3 hK21 hb22
    refine hJ _ _ hK22 ?_
    clear hJ J hb22
    try simp only [Act.put, List.setIfInBounds_toArray, List.set_cons_zero, List.set_cons_succ]
    repeat (first
        | (refine' hold_skip ?_ ?_ ?_
           rotate_left 1
           · simp only [List.getElem?_toArray, List.getElem?_cons_zero, List.getElem?_cons_succ]; exact rfl
           · exact rfl
           simp only [Act.put, List.setIfInBounds_toArray, List.set_cons_zero, List.set_cons_succ])
        | (refine' hold_want ?_ ?_ (fun J hJ => ?_)
           rotate_left 1
           · simp only [List.getElem?_toArray, List.getElem?_cons_zero, List.getElem?_cons_succ]; exact rfl
           · exact rfl
           first
           | (refine quiet_load_pat _ rfl w.heap.size [.bool st, .bool en, c0, c1, c2, c3, c4, c5, c6, c7, c8, .int .i64 gr] rfl (fun w' ⟨L, hL⟩ => hL ▸ HP12.out _ (HLow.out _ (st3 HB.out L.ok))) ?_; refine hJ _ ?_; clear hJ J; try simp only [Act.put, List.setIfInBounds_toArray, List.set_cons_zero, List.set_cons_succ])
           | (refine quiet_load_refpat _ rfl w4.heap.size C rfl HC1.out (fun w' ⟨L, hL⟩ => hL ▸ HPB.out _ (st3 HB.out L.ok)) ?_; refine hJ _ ?_; clear hJ J; try simp only [Act.put, List.setIfInBounds_toArray, List.set_cons_zero, List.set_cons_succ])
           | (refine quiet_load_node9 _ rfl w.heap.size 2 [c0, c1, c2, c3, c4, c5, c6, c7, c8] rfl (fun w' ⟨L, hL⟩ => hL ▸ HN9.out _ (HLow.out _ (st3 HB.out L.ok))) ?_; refine hJ _ ?_; clear hJ J; try simp only [Act.put, List.setIfInBounds_toArray, List.set_cons_zero, List.set_cons_succ])
           | (refine quiet_load_node9 _ rfl (w.heap.size + 1) 0 [d0, d1, d2, d3, d4, d5, d6, d7, d8] rfl (fun w' ⟨L, hL⟩ => hL ▸ HD9.out _ (HLow.out _ (st3 HB.out L.ok))) ?_; refine hJ _ ?_; clear hJ J; try simp only [Act.put, List.setIfInBounds_toArray, List.set_cons_zero, List.set_cons_succ])
           | (refine quiet_load_refnode5 _ rfl w4.heap.size 2 rs rfl (fun w' ⟨L, hL⟩ => hL ▸ HRoot.out _ (st3 HB.out L.ok)) ?_; refine hJ _ ?_; clear hJ J; try simp only [Act.put, List.setIfInBounds_toArray, List.set_cons_zero, List.set_cons_succ])
           | (refine quiet_extract _ _ rfl _ _ rfl rfl ?_; refine hJ _ ?_; clear hJ J; try simp only [Act.put, List.setIfInBounds_toArray, List.set_cons_zero, List.set_cons_succ])
           | (go_big_quiet_op; refine hJ _ ?_; clear hJ J; try simp only [Act.put, List.setIfInBounds_toArray, List.set_cons_zero, List.set_cons_succ])))
    refine' hold_sole ?_ ?_ (fun J hJ => ?_)
    rotate_left 1
    · simp only [List.getElem?_toArray, List.getElem?_cons_zero, List.getElem?_cons_succ]; exact rfl
    · exact rfl
    go_simp
    refine (HSz.out _ (st3 HB.out hK22)).mono ?_
    rintro e w23 ⟨rfl, hb23⟩
    have hK23 : Below w6.heap.size w6 w23 := st3 hK22 hb23
    refine hJ _ _ hK23 ?_
    clear hJ J hb23
    try simp only [Act.put, List.setIfInBounds_toArray, List.set_cons_zero, List.set_cons_succ]
    refine' hold_sole ?_ ?_ (fun J hJ => ?_)
    rotate_left 1
    · simp only [List.getElem?_toArray, List.getElem?_cons_zero, List.getElem?_cons_succ]; exact rfl
    · exact rfl
    go_simp
    refine (HSr.out _ (st3 HB.out hK23)).mono ?_
    rintro e w24 ⟨rfl, hb24⟩
    have hK24 : Below w6.heap.size w6 w24 := st3 hK23 hb24
    refine hJ _ _ hK24 ?_
    clear hJ J hb24
    try simp only [Act.put, List.setIfInBounds_toArray, List.set_cons_zero, List.set_cons_succ]
    repeat (first
        | (refine' hold_skip ?_ ?_ ?_
           rotate_left 1
           · simp only [List.getElem?_toArray, List.getElem?_cons_zero, List.getElem?_cons_succ]; exact rfl
           · exact rfl
           simp only [Act.put, List.setIfInBounds_toArray, List.set_cons_zero, List.set_cons_succ])
        | (refine' hold_want ?_ ?_ (fun J hJ => ?_)
           rotate_left 1
           · simp only [List.getElem?_toArray, List.getElem?_cons_zero, List.getElem?_cons_succ]; exact rfl
           · exact rfl
           first
           | (refine quiet_load_pat _ rfl w.heap.size [.bool st, .bool en, c0, c1, c2, c3, c4, c5, c6, c7, c8, .int .i64 gr] rfl (fun w' ⟨L, hL⟩ => hL ▸ HP12.out _ (HLow.out _ (st3 HB.out L.ok))) ?_; refine hJ _ ?_; clear hJ J; try simp only [Act.put, List.setIfInBounds_toArray, List.set_cons_zero, List.set_cons_succ])
           | (refine quiet_load_refpat _ rfl w4.heap.size C rfl HC1.out (fun w' ⟨L, hL⟩ => hL ▸ HPB.out _ (st3 HB.out L.ok)) ?_; refine hJ _ ?_; clear hJ J; try simp only [Act.put, List.setIfInBounds_toArray, List.set_cons_zero, List.set_cons_succ])
           | (refine quiet_load_node9 _ rfl w.heap.size 2 [c0, c1, c2, c3, c4, c5, c6, c7, c8] rfl (fun w' ⟨L, hL⟩ => hL ▸ HN9.out _ (HLow.out _ (st3 HB.out L.ok))) ?_; refine hJ _ ?_; clear hJ J; try simp only [Act.put, List.setIfInBounds_toArray, List.set_cons_zero, List.set_cons_succ])
           | (refine quiet_load_node9 _ rfl (w.heap.size + 1) 0 [d0, d1, d2, d3, d4, d5, d6, d7, d8] rfl (fun w' ⟨L, hL⟩ => hL ▸ HD9.out _ (HLow.out _ (st3 HB.out L.ok))) ?_; refine hJ _ ?_; clear hJ J; try simp only [Act.put, List.setIfInBounds_toArray, List.set_cons_zero, List.set_cons_succ])
           | (refine quiet_load_refnode5 _ rfl w4.heap.size 2 rs rfl (fun w' ⟨L, hL⟩ => hL ▸ HRoot.out _ (st3 HB.out L.ok)) ?_; refine hJ _ ?_; clear hJ J; try simp only [Act.put, List.setIfInBounds_toArray, List.set_cons_zero, List.set_cons_succ])
           | (refine quiet_extract _ _ rfl _ _ rfl rfl ?_; refine hJ _ ?_; clear hJ J; try simp only [Act.put, List.setIfInBounds_toArray, List.set_cons_zero, List.set_cons_succ])
           | (go_big_quiet_op; refine hJ _ ?_; clear hJ J; try simp only [Act.put, List.setIfInBounds_toArray, List.set_cons_zero, List.set_cons_succ])))
    refine' hold_sole ?_ ?_ (fun J hJ => ?_)
    rotate_left 1
    · simp only [List.getElem?_toArray, List.getElem?_cons_zero, List.getElem?_cons_succ]; exact rfl
    · exact rfl
    go_simp
    refine (HDp.out _ (st3 HB.out hK24)).mono ?_
    rintro e w25 ⟨rfl, hb25⟩
    have hK25 : Below w6.heap.size w6 w25 := st3 hK24 hb25
    refine hJ _ _ hK25 ?_
    clear hJ J hb25
    try simp only [Act.put, List.setIfInBounds_toArray, List.set_cons_zero, List.set_cons_succ]
    refine' hold_sole ?_ ?_ (fun J hJ => ?_)
    rotate_left 1
    · simp only [List.getElem?_toArray, List.getElem?_cons_zero, List.getElem?_cons_succ]; exact rfl
    · exact rfl
    go_simp
    refine (HDr.out _ (st3 HB.out hK25)).mono ?_
    rintro e w26 ⟨rfl, hb26⟩
    have hK26 : Below w6.heap.size w6 w26 := st3 hK25 hb26
    refine hJ _ _ hK26 ?_
    clear hJ J hb26
    try simp only [Act.put, List.setIfInBounds_toArray, List.set_cons_zero, List.set_cons_succ]
    repeat (first
        | (refine' hold_skip ?_ ?_ ?_
           rotate_left 1
           · simp only [List.getElem?_toArray, List.getElem?_cons_zero, List.getElem?_cons_succ]; exact rfl
           · exact rfl
           simp only [Act.put, List.setIfInBounds_toArray, List.set_cons_zero, List.set_cons_succ])
        | (refine' hold_want ?_ ?_ (fun J hJ => ?_)
           rotate_left 1
           · simp only [List.getElem?_toArray, List.getElem?_cons_zero, List.getElem?_cons_succ]; exact rfl
           · exact rfl
           first
           | (refine quiet_load_pat _ rfl w.heap.size [.bool st, .bool en, c0, c1, c2, c3, c4, c5, c6, c7, c8, .int .i64 gr] rfl (fun w' ⟨L, hL⟩ => hL ▸ HP12.out _ (HLow.out _ (st3 HB.out L.ok))) ?_; refine hJ _ ?_; clear hJ J; try simp only [Act.put, List.setIfInBounds_toArray, List.set_cons_zero, List.set_cons_succ])
           | (refine quiet_load_refpat _ rfl w4.heap.size C rfl HC1.out (fun w' ⟨L, hL⟩ => hL ▸ HPB.out _ (st3 HB.out L.ok)) ?_; refine hJ _ ?_; clear hJ J; try simp only [Act.put, List.setIfInBounds_toArray, List.set_cons_zero, List.set_cons_succ])
           | (refine quiet_load_node9 _ rfl w.heap.size 2 [c0, c1, c2, c3, c4, c5, c6, c7, c8] rfl (fun w' ⟨L, hL⟩ => hL ▸ HN9.out _ (HLow.out _ (st3 HB.out L.ok))) ?_; refine hJ _ ?_; clear hJ J; try simp only [Act.put, List.setIfInBounds_toArray, List.set_cons_zero, List.set_cons_succ])
           | (refine quiet_load_node9 _ rfl (w.heap.size + 1) 0 [d0, d1, d2, d3, d4, d5, d6, d7, d8] rfl (fun w' ⟨L, hL⟩ => hL ▸ HD9.out _ (HLow.out _ (st3 HB.out L.ok))) ?_; refine hJ _ ?_; clear hJ J; try simp only [Act.put, List.setIfInBounds_toArray, List.set_cons_zero, List.set_cons_succ])
           | (refine quiet_load_refnode5 _ rfl w4.heap.size 2 rs rfl (fun w' ⟨L, hL⟩ => hL ▸ HRoot.out _ (st3 HB.out L.ok)) ?_; refine hJ _ ?_; clear hJ J; try simp only [Act.put, List.setIfInBounds_toArray, List.set_cons_zero, List.set_cons_succ])
           | (refine quiet_extract _ _ rfl _ _ rfl rfl ?_; refine hJ _ ?_; clear hJ J; try simp only [Act.put, List.setIfInBounds_toArray, List.set_cons_zero, List.set_cons_succ])
           | (go_big_quiet_op; refine hJ _ ?_; clear hJ J; try simp only [Act.put, List.setIfInBounds_toArray, List.set_cons_zero, List.set_cons_succ])))
    refine' hold_sole ?_ ?_ (fun J hJ => ?_)
    rotate_left 1
    · simp only [List.getElem?_toArray, List.getElem?_cons_zero, List.getElem?_cons_succ]; exact rfl
    · exact rfl
    go_simp
    refine (HSm.out _ (st3 HB.out hK26)).mono ?_
    rintro e w27 ⟨rfl, hb27⟩
    have hK27 : Below w6.heap.size w6 w27 := st3 hK26 hb27
    refine hJ _ _ hK27 ?_
    clear hJ J hb27
    try simp only [Act.put, List.setIfInBounds_toArray, List.set_cons_zero, List.set_cons_succ]
    refine' hold_sole ?_ ?_ (fun J hJ => ?_)
    rotate_left 1
    · simp only [List.getElem?_toArray, List.getElem?_cons_zero, List.getElem?_cons_succ]; exact rfl
    · exact rfl
    go_simp
    refine (HNd.out _ (st3 HB.out hK27)).mono ?_
    rintro e w28 ⟨ys28, rfl, hm28, hb28⟩
    have hK28 : Below w6.heap.size w6 w28 := st3 hK27 hb28
    refine hJ _ _ hK28 ?_
    clear hJ J hb28
    try simp only [Act.put, List.setIfInBounds_toArray, List.set_cons_zero, List.set_cons_succ]
    refine' hold_sole ?_ ?_ (fun J hJ => ?_)
    rotate_left 1
    · simp only [List.getElem?_toArray, List.getElem?_cons_zero, List.getElem?_cons_succ]; exact rfl
    · exact rfl
    go_simp
    refine (HSmr.out _ _ (st3 HB.out hK28) hm28).mono ?_
    rintro e w29 ⟨rfl, hb29⟩
    have hK29 : Below w6.heap.size w6 w29 := st3 hK28 hb29
    refine hJ _ _ hK29 ?_
    clear hJ J hb29
    try simp only [Act.put, List.setIfInBounds_toArray, List.set_cons_zero, List.set_cons_succ]
    repeat (first
        | (refine' hold_skip ?_ ?_ ?_
           rotate_left 1
           · simp only [List.getElem?_toArray, List.getElem?_cons_zero, List.getElem?_cons_succ]; exact rfl
           · exact rfl
           simp only [Act.put, List.setIfInBounds_toArray, List.set_cons_zero, List.set_cons_succ])
        | (refine' hold_want ?_ ?_ (fun J hJ => ?_)
           rotate_left 1
           · simp only [List.getElem?_toArray, List.getElem?_cons_zero, List.getElem?_cons_succ]; exact rfl
           · exact rfl
           first
           | (refine quiet_load_pat _ rfl w.heap.size [.bool st, .bool en, c0, c1, c2, c3, c4, c5, c6, c7, c8, .int .i64 gr] rfl (fun w' ⟨L, hL⟩ => hL ▸ HP12.out _ (HLow.out _ (st3 HB.out L.ok))) ?_; refine hJ _ ?_; clear hJ J; try simp only [Act.put, List.setIfInBounds_toArray, List.set_cons_zero, List.set_cons_succ])
           | (refine quiet_load_refpat _ rfl w4.heap.size C rfl HC1.out (fun w' ⟨L, hL⟩ => hL ▸ HPB.out _ (st3 HB.out L.ok)) ?_; refine hJ _ ?_; clear hJ J; try simp only [Act.put, List.setIfInBounds_toArray, List.set_cons_zero, List.set_cons_succ])
           | (refine quiet_load_node9 _ rfl w.heap.size 2 [c0, c1, c2, c3, c4, c5, c6, c7, c8] rfl (fun w' ⟨L, hL⟩ => hL ▸ HN9.out _ (HLow.out _ (st3 HB.out L.ok))) ?_; refine hJ _ ?_; clear hJ J; try simp only [Act.put, List.setIfInBounds_toArray, List.set_cons_zero, List.set_cons_succ])
           | (refine quiet_load_node9 _ rfl (w.heap.size + 1) 0 [d0, d1, d2, d3, d4, d5, d6, d7, d8] rfl (fun w' ⟨L, hL⟩ => hL ▸ HD9.out _ (HLow.out _ (st3 HB.out L.ok))) ?_; refine hJ _ ?_; clear hJ J; try simp only [Act.put, List.setIfInBounds_toArray, List.set_cons_zero, List.set_cons_succ])
           | (refine quiet_load_refnode5 _ rfl w4.heap.size 2 rs rfl (fun w' ⟨L, hL⟩ => hL ▸ HRoot.out _ (st3 HB.out L.ok)) ?_; refine hJ _ ?_; clear hJ J; try simp only [Act.put, List.setIfInBounds_toArray, List.set_cons_zero, List.set_cons_succ])
           | (refine quiet_extract _ _ rfl _ _ rfl rfl ?_; refine hJ _ ?_; clear hJ J; try simp only [Act.put, List.setIfInBounds_toArray, List.set_cons_zero, List.set_cons_succ])
           | (go_big_quiet_op; refine hJ _ ?_; clear hJ J; try simp only [Act.put, List.setIfInBounds_toArray, List.set_cons_zero, List.set_cons_succ])))
    refine hold_done ?_
    have HE := Lib.hid (HLow.out _ (st3 HB.out hK29))
    go_wp2_with fail
    go_ret
    exact ⟨rfl, HbW.out.trans (HE.out.mono HbW.out.size)⟩
  | true =>
    obtain ⟨hc2, hacc⟩ := HGood.out rfl
    obtain ⟨S, hS⟩ : ∃ S, S = x.sets := ⟨_, rfl⟩
    obtain ⟨n, hn⟩ : ∃ n, n = S.length := ⟨_, rfl⟩
    have HSt2 : Hid (∀ w', Below w5.heap.size w5 w' → Calls Try.prog 8 #[.agg #[c0, c1, c2, c3, c4, c5, c6, c7, c8]] w' fun e w2 => ∃ a cap, e = .returned (.slice a n cap) ∧ SetsAt w2 a n cap S ∧ Below w'.heap.size w' w2) := Lib.hid fun w' h => (HSt.out w' h).mono fun e w2 hh => by
      obtain ⟨a, cap, e1, e2, e3, _⟩ := hh
      rw [hacc, ← hS, ← hn] at e1 e2
      exact ⟨a, cap, e1, e2, e3⟩
    have HStr2 : Hid (∀ w', Below w5.heap.size w5 w' → Calls Try.prog 9 #[.agg rs.toArray] w' fun e w2 => ∃ a cap, e = .returned (.slice a n cap) ∧ RefsAt w2 a n cap (S.map BitVec.getLsbD) ∧ Below w'.heap.size w' w2) := Lib.hid fun w' h => (HStr.out w' h (by omega)).mono fun e w2 hh => by
      obtain ⟨v', e1, e2, e3⟩ := hh
      rw [← hS, ← hn] at e2
      obtain ⟨a, cap, rfl⟩ := owns_shape e2
      have hl : (S.map BitVec.getLsbD).length = n := by rw [List.length_map, hn]
      have h2 := refsAt_of_owns (F := S.map BitVec.getLsbD) (a := a) (cap := cap) (by rw [hl]; exact e2)
      rw [hl] at h2
      exact ⟨a, cap, e1, h2.1, e3⟩
    have HF : Hid (∀ j, j < n → (S.map BitVec.getLsbD).getD j bNone = (S.getD j 0).getLsbD) := Lib.hid fun j hj => by
      have hj' : j < S.length := by omega
      rw [List.getD_eq_getElem?_getD, List.getElem?_map, List.getD_eq_getElem?_getD, List.getElem?_eq_getElem hj']; rfl
    clear hc2 hacc hS hn
    go_upto_region 7 with fail
    obtain ⟨wd, hwd⟩ : ∃ wd, wd = w6.drew := ⟨_, rfl⟩
    have hKd : Below w6.heap.size w6 wd := by rw [hwd]; exact (Below.refl _ _).drew
    have hNE := HeldW.nonempty (S := fun w' => Below w6.heap.size w6 w') hKd
    refine wp_region_hold (fun w' => Below w6.heap.size w6 w') (.plain 0 (.plain 1 (.plain 3 (.plain 4 (.sole 2 (.sole 5 (.plain 6 (.plain 7 .done)))))))) (by rw [← hwd]; exact hKd) (by kernel_rfl) (by kernel_rfl) (fun c a d v w h => by cases d <;> exact h) ?_
    rw [← hwd]
    clear hwd
    repeat (first
        | (refine' hold_skip ?_ ?_ ?_
           rotate_left 1
           · simp only [List.getElem?_toArray, List.getElem?_cons_zero, List.getElem?_cons_succ]; exact rfl
           · exact rfl
           simp only [Act.put, List.setIfInBounds_toArray, List.set_cons_zero, List.set_cons_succ])
        | (refine' hold_want ?_ ?_ (fun J hJ => ?_)
           rotate_left 1
           · simp only [List.getElem?_toArray, List.getElem?_cons_zero, List.getElem?_cons_succ]; exact rfl
           · exact rfl
           first
           | (refine quiet_load_pat _ rfl w.heap.size [.bool st, .bool en, c0, c1, c2, c3, c4, c5, c6, c7, c8, .int .i64 gr] rfl (fun w' ⟨L, hL⟩ => hL ▸ HP12.out _ (HLow.out _ (st3 HB.out L.ok))) ?_; refine hJ _ ?_; clear hJ J; try simp only [Act.put, List.setIfInBounds_toArray, List.set_cons_zero, List.set_cons_succ])
           | (refine quiet_load_refpat _ rfl w4.heap.size C rfl HC1.out (fun w' ⟨L, hL⟩ => hL ▸ HPB.out _ (st3 HB.out L.ok)) ?_; refine hJ _ ?_; clear hJ J; try simp only [Act.put, List.setIfInBounds_toArray, List.set_cons_zero, List.set_cons_succ])
           | (refine quiet_load_node9 _ rfl w.heap.size 2 [c0, c1, c2, c3, c4, c5, c6, c7, c8] rfl (fun w' ⟨L, hL⟩ => hL ▸ HN9.out _ (HLow.out _ (st3 HB.out L.ok))) ?_; refine hJ _ ?_; clear hJ J; try simp only [Act.put, List.setIfInBounds_toArray, List.set_cons_zero, List.set_cons_succ])
           | (refine quiet_load_node9 _ rfl (w.heap.size + 1) 0 [d0, d1, d2, d3, d4, d5, d6, d7, d8] rfl (fun w' ⟨L, hL⟩ => hL ▸ HD9.out _ (HLow.out _ (st3 HB.out L.ok))) ?_; refine hJ _ ?_; clear hJ J; try simp only [Act.put, List.setIfInBounds_toArray, List.set_cons_zero, List.set_cons_succ])
           | (refine quiet_load_refnode5 _ rfl w4.heap.size 2 rs rfl (fun w' ⟨L, hL⟩ => hL ▸ HRoot.out _ (st3 HB.out L.ok)) ?_; refine hJ _ ?_; clear hJ J; try simp only [Act.put, List.setIfInBounds_toArray, List.set_cons_zero, List.set_cons_succ])
           | (refine quiet_extract _ _ rfl _ _ rfl rfl ?_; refine hJ _ ?_; clear hJ J; try simp only [Act.put, List.setIfInBounds_toArray, List.set_cons_zero, List.set_cons_succ])
           | (go_big_quiet_op; refine hJ _ ?_; clear hJ J; try simp only [Act.put, List.setIfInBounds_toArray, List.set_cons_zero, List.set_cons_succ])))
    refine' hold_sole ?_ ?_ (fun J hJ => ?_)
    rotate_left 1
    · simp only [List.getElem?_toArray, List.getElem?_cons_zero, List.getElem?_cons_succ]; exact rfl
    · exact rfl
    go_simp
    refine (HSt2.out _ (st3 HB.out hKd)).mono ?_
    rintro e w30 ⟨la, lcap, rfl, hsl, hb30⟩
    have hK30 : Below w6.heap.size w6 w30 := st3 hKd hb30
    refine hJ _ _ hK30 ?_
    clear hJ J hb30
    try simp only [Act.put, List.setIfInBounds_toArray, List.set_cons_zero, List.set_cons_succ]
    refine' hold_sole ?_ ?_ (fun J hJ => ?_)
    rotate_left 1
    · simp only [List.getElem?_toArray, List.getElem?_cons_zero, List.getElem?_cons_succ]; exact rfl
    · exact rfl
    go_simp
    refine (HStr2.out _ (st3 HB.out hK30)).mono ?_
    rintro e w31 ⟨ma, mcap, rfl, hsm, hb31⟩
    have hK31 : Below w6.heap.size w6 w31 := st3 hK30 hb31
    have hl_31 := hsl.below hb31 rfl
    refine hJ _ _ hK31 ?_
    clear hJ J hb31
    try simp only [Act.put, List.setIfInBounds_toArray, List.set_cons_zero, List.set_cons_succ]
    repeat (first
        | (refine' hold_skip ?_ ?_ ?_
           rotate_left 1
           · simp only [List.getElem?_toArray, List.getElem?_cons_zero, List.getElem?_cons_succ]; exact rfl
           · exact rfl
           simp only [Act.put, List.setIfInBounds_toArray, List.set_cons_zero, List.set_cons_succ])
        | (refine' hold_want ?_ ?_ (fun J hJ => ?_)
           rotate_left 1
           · simp only [List.getElem?_toArray, List.getElem?_cons_zero, List.getElem?_cons_succ]; exact rfl
           · exact rfl
           first
           | (refine quiet_load_pat _ rfl w.heap.size [.bool st, .bool en, c0, c1, c2, c3, c4, c5, c6, c7, c8, .int .i64 gr] rfl (fun w' ⟨L, hL⟩ => hL ▸ HP12.out _ (HLow.out _ (st3 HB.out L.ok))) ?_; refine hJ _ ?_; clear hJ J; try simp only [Act.put, List.setIfInBounds_toArray, List.set_cons_zero, List.set_cons_succ])
           | (refine quiet_load_refpat _ rfl w4.heap.size C rfl HC1.out (fun w' ⟨L, hL⟩ => hL ▸ HPB.out _ (st3 HB.out L.ok)) ?_; refine hJ _ ?_; clear hJ J; try simp only [Act.put, List.setIfInBounds_toArray, List.set_cons_zero, List.set_cons_succ])
           | (refine quiet_load_node9 _ rfl w.heap.size 2 [c0, c1, c2, c3, c4, c5, c6, c7, c8] rfl (fun w' ⟨L, hL⟩ => hL ▸ HN9.out _ (HLow.out _ (st3 HB.out L.ok))) ?_; refine hJ _ ?_; clear hJ J; try simp only [Act.put, List.setIfInBounds_toArray, List.set_cons_zero, List.set_cons_succ])
           | (refine quiet_load_node9 _ rfl (w.heap.size + 1) 0 [d0, d1, d2, d3, d4, d5, d6, d7, d8] rfl (fun w' ⟨L, hL⟩ => hL ▸ HD9.out _ (HLow.out _ (st3 HB.out L.ok))) ?_; refine hJ _ ?_; clear hJ J; try simp only [Act.put, List.setIfInBounds_toArray, List.set_cons_zero, List.set_cons_succ])
           | (refine quiet_load_refnode5 _ rfl w4.heap.size 2 rs rfl (fun w' ⟨L, hL⟩ => hL ▸ HRoot.out _ (st3 HB.out L.ok)) ?_; refine hJ _ ?_; clear hJ J; try simp only [Act.put, List.setIfInBounds_toArray, List.set_cons_zero, List.set_cons_succ])
           | (refine quiet_extract _ _ rfl _ _ rfl rfl ?_; refine hJ _ ?_; clear hJ J; try simp only [Act.put, List.setIfInBounds_toArray, List.set_cons_zero, List.set_cons_succ])
           | (go_big_quiet_op; refine hJ _ ?_; clear hJ J; try simp only [Act.put, List.setIfInBounds_toArray, List.set_cons_zero, List.set_cons_succ])))
    refine hold_done ?_
    obtain ⟨w7, rfl⟩ : ∃ w7, w7 = w31 := ⟨_, rfl⟩
    have HB7 := Lib.hid (st3 HB.out hK31)
    have Hl := Lib.hid hl_31
    have Hm := Lib.hid hsm
    have hnI : (n : Int) ≤ 9223372036854775807 := by have h := Hl.out.2.1; unfold maxLen at h; omega
    go_wp2_with fail
    go_loopw [8] (fun i wr => ∃ j : Nat, i = .int .i64 j ∧ j ≤ n ∧ Hid (Below w7.heap.size w7 wr)) (fun i _ => n - (intOf i).toNat)
    case atStart => exact ⟨0, rfl, Nat.zero_le _, Lib.hid (Below.refl _ _)⟩
    case round =>
      obtain ⟨j, rfl, hj, hr⟩ := hrel
      have HBr := Lib.hid (st3 HB7.out hr.out)
      by_cases hjn : j < n
      · have hdj : decide ((j : Int) < n) = true := by simp; omega
        obtain ⟨gl, ol, rfl, hcl, hbl, hsl⟩ := (Hl.out.2.2).resolve_left (by omega)
        obtain ⟨gm, om, rfl, hcm, hbm, hsm⟩ := (Hm.out.2.2).resolve_left (by omega)
        have hlI : (n : Int) ≤ lcap := by omega
        have hmI : (n : Int) ≤ mcap := by omega
        have hA := hsl j hjn
        have hB := hsm j hjn
        rw [HF.out j hjn] at hB
        generalize S.getD j 0 = A at hA hB
        have HlA := Lib.hid (fun w' (h : Below wr.heap.size wr w') => hA.below (st3 hr.out h) hbl)
        have HlB := Lib.hid (fun w' (h : Below wr.heap.size wr w') => hB.below (st3 hr.out h) hbm)
        have heqr := eqlr_one A.getLsbD
        clear hA hB hsl hsm hcl hcm hbl hbm
        go_upto_region 13 with fail
        obtain ⟨wd, hwd⟩ : ∃ wd, wd = wr.drew := ⟨_, rfl⟩
        have hKd : Below wr.heap.size wr wd := by rw [hwd]; exact (Below.refl _ _).drew
        have hNE := HeldW.nonempty (S := fun w' => Below wr.heap.size wr w') hKd
        refine wp_region_hold (fun w' => Below wr.heap.size wr w') (.plain 0 (.plain 1 (.plain 2 (.plain 3 (.plain 5 (.plain 6 (.plain 7 (.plain 8 (.sole 4 (.plain 9 .done)))))))))) (by rw [← hwd]; exact hKd) (by kernel_rfl) (by kernel_rfl) (fun c a d v w h => by cases d <;> exact h) ?_
        rw [← hwd]
        clear hwd
        repeat (first
            | (refine' hold_skip ?_ ?_ ?_
               rotate_left 1
               · simp only [List.getElem?_toArray, List.getElem?_cons_zero, List.getElem?_cons_succ]; exact rfl
               · exact rfl
               simp only [Act.put, List.setIfInBounds_toArray, List.set_cons_zero, List.set_cons_succ])
            | (refine' hold_want ?_ ?_ (fun J hJ => ?_)
               rotate_left 1
               · simp only [List.getElem?_toArray, List.getElem?_cons_zero, List.getElem?_cons_succ]; exact rfl
               · exact rfl
               first
               | (refine quiet_load_set _ rfl gl (ol + j * 4) A rfl (fun w' ⟨L, hL⟩ => hL ▸ HlA.out _ L.ok) ?_; refine hJ _ ?_; clear hJ J; try simp only [Act.put, List.setIfInBounds_toArray, List.set_cons_zero, List.set_cons_succ])
               | (refine quiet_load_refAt _ rfl gm (om + j * 256) A.getLsbD rfl (fun w' ⟨L, hL⟩ => hL ▸ HlB.out _ L.ok) ?_; refine hJ _ ?_; clear hJ J; try simp only [Act.put, List.setIfInBounds_toArray, List.set_cons_zero, List.set_cons_succ])
               | (refine quiet_extract _ _ rfl _ _ rfl rfl ?_; refine hJ _ ?_; clear hJ J; try simp only [Act.put, List.setIfInBounds_toArray, List.set_cons_zero, List.set_cons_succ])
               | (go_big_quiet_op; refine hJ _ ?_; clear hJ J; try simp only [Act.put, List.setIfInBounds_toArray, List.set_cons_zero, List.set_cons_succ])))
        refine' hold_sole ?_ ?_ (fun J hJ => ?_)
        rotate_left 1
        · simp only [List.getElem?_toArray, List.getElem?_cons_zero, List.getElem?_cons_succ]; exact rfl
        · exact rfl
        go_simp
        refine (lawOwn_any A _).mono ?_
        rintro e w32 ⟨rfl, hb32⟩
        have hK32 : Below wr.heap.size wr w32 := st3 hKd hb32
        refine hJ _ _ hK32 ?_
        clear hJ J hb32
        try simp only [Act.put, List.setIfInBounds_toArray, List.set_cons_zero, List.set_cons_succ]
        repeat (first
            | (refine' hold_skip ?_ ?_ ?_
               rotate_left 1
               · simp only [List.getElem?_toArray, List.getElem?_cons_zero, List.getElem?_cons_succ]; exact rfl
               · exact rfl
               simp only [Act.put, List.setIfInBounds_toArray, List.set_cons_zero, List.set_cons_succ])
            | (refine' hold_want ?_ ?_ (fun J hJ => ?_)
               rotate_left 1
               · simp only [List.getElem?_toArray, List.getElem?_cons_zero, List.getElem?_cons_succ]; exact rfl
               · exact rfl
               first
               | (refine quiet_load_set _ rfl gl (ol + j * 4) A rfl (fun w' ⟨L, hL⟩ => hL ▸ HlA.out _ L.ok) ?_; refine hJ _ ?_; clear hJ J; try simp only [Act.put, List.setIfInBounds_toArray, List.set_cons_zero, List.set_cons_succ])
               | (refine quiet_load_refAt _ rfl gm (om + j * 256) A.getLsbD rfl (fun w' ⟨L, hL⟩ => hL ▸ HlB.out _ L.ok) ?_; refine hJ _ ?_; clear hJ J; try simp only [Act.put, List.setIfInBounds_toArray, List.set_cons_zero, List.set_cons_succ])
               | (refine quiet_extract _ _ rfl _ _ rfl rfl ?_; refine hJ _ ?_; clear hJ J; try simp only [Act.put, List.setIfInBounds_toArray, List.set_cons_zero, List.set_cons_succ])
               | (go_big_quiet_op; refine hJ _ ?_; clear hJ J; try simp only [Act.put, List.setIfInBounds_toArray, List.set_cons_zero, List.set_cons_succ])))
        refine hold_done ?_
        have HE := Lib.hid (st3 hr.out hK32)
        clear heqr
        go_wp2_with fail
        go_roundw
        case rel => exact ⟨j + 1, by go_num, by omega, HE⟩
        case measure => simp [intOf]; omega
      · obtain rfl : j = n := by omega
        have hdj : decide ((j : Int) < j) = false := by simp
        go_upto_region 15 with fail
        obtain ⟨wd, hwd⟩ : ∃ wd, wd = wr.drew := ⟨_, rfl⟩
        have hKd : Below wr.heap.size wr wd := by rw [hwd]; exact (Below.refl _ _).drew
        have hNE := HeldW.nonempty (S := fun w' => Below wr.heap.size wr w') hKd
        refine wp_region_hold (fun w' => Below wr.heap.size wr w') (.plain 0 (.plain 2 (.sole 1 (.sole 3 (.plain 4 (.plain 5 (.plain 6 (.plain 7 (.plain 9 (.plain 10 (.sole 8 (.sole 11 (.plain 12 (.plain 13 (.plain 14 (.plain 15 (.plain 16 (.plain 18 (.plain 19 (.sole 17 (.sole 20 (.plain 21 (.plain 22 (.plain 23 (.plain 24 (.plain 25 (.plain 26 (.plain 28 (.plain 29 (.plain 30 (.sole 27 (.sole 31 (.sole 32 (.plain 33 (.plain 34 (.plain 35 .done)))))))))))))))))))))))))))))))))))) (by rw [← hwd]; exact hKd) (by kernel_rfl) (by kernel_rfl) (fun c a d v w h => by cases d <;> exact h) ?_
        rw [← hwd]
        clear hwd
        repeat (first
            | (refine' hold_skip ?_ ?_ ?_
               rotate_left 1
               · simp only [List.getElem?_toArray, List.getElem?_cons_zero, List.getElem?_cons_succ]; exact rfl
               · exact rfl
               simp only [Act.put, List.setIfInBounds_toArray, List.set_cons_zero, List.set_cons_succ])
            | (refine' hold_want ?_ ?_ (fun J hJ => ?_)
               rotate_left 1
               · simp only [List.getElem?_toArray, List.getElem?_cons_zero, List.getElem?_cons_succ]; exact rfl
               · exact rfl
               first
               | (refine quiet_load_pat _ rfl w.heap.size [.bool st, .bool en, c0, c1, c2, c3, c4, c5, c6, c7, c8, .int .i64 gr] rfl (fun w' ⟨L, hL⟩ => hL ▸ HP12.out _ (HLow.out _ (st3 HBr.out L.ok))) ?_; refine hJ _ ?_; clear hJ J; try simp only [Act.put, List.setIfInBounds_toArray, List.set_cons_zero, List.set_cons_succ])
               | (refine quiet_load_refpat _ rfl w4.heap.size C rfl HC1.out (fun w' ⟨L, hL⟩ => hL ▸ HPB.out _ (st3 HBr.out L.ok)) ?_; refine hJ _ ?_; clear hJ J; try simp only [Act.put, List.setIfInBounds_toArray, List.set_cons_zero, List.set_cons_succ])
               | (refine quiet_load_node9 _ rfl w.heap.size 2 [c0, c1, c2, c3, c4, c5, c6, c7, c8] rfl (fun w' ⟨L, hL⟩ => hL ▸ HN9.out _ (HLow.out _ (st3 HBr.out L.ok))) ?_; refine hJ _ ?_; clear hJ J; try simp only [Act.put, List.setIfInBounds_toArray, List.set_cons_zero, List.set_cons_succ])
               | (refine quiet_load_node9 _ rfl (w.heap.size + 1) 0 [d0, d1, d2, d3, d4, d5, d6, d7, d8] rfl (fun w' ⟨L, hL⟩ => hL ▸ HD9.out _ (HLow.out _ (st3 HBr.out L.ok))) ?_; refine hJ _ ?_; clear hJ J; try simp only [Act.put, List.setIfInBounds_toArray, List.set_cons_zero, List.set_cons_succ])
               | (refine quiet_load_refnode5 _ rfl w4.heap.size 2 rs rfl (fun w' ⟨L, hL⟩ => hL ▸ HRoot.out _ (st3 HBr.out L.ok)) ?_; refine hJ _ ?_; clear hJ J; try simp only [Act.put, List.setIfInBounds_toArray, List.set_cons_zero, List.set_cons_succ])
               | (refine quiet_extract _ _ rfl _ _ rfl rfl ?_; refine hJ _ ?_; clear hJ J; try simp only [Act.put, List.setIfInBounds_toArray, List.set_cons_zero, List.set_cons_succ])
               | (go_big_quiet_op; refine hJ _ ?_; clear hJ J; try simp only [Act.put, List.setIfInBounds_toArray, List.set_cons_zero, List.set_cons_succ])))
        refine' hold_sole ?_ ?_ (fun J hJ => ?_)
        rotate_left 1
        · simp only [List.getElem?_toArray, List.getElem?_cons_zero, List.getElem?_cons_succ]; exact rfl
        · exact rfl
        go_simp
        refine (HGt.out _ (st3 HBr.out hKd)).mono ?_
        rintro e w33 ⟨rfl, hb33⟩
        have hK33 : Below wr.heap.size wr w33 := st3 hKd hb33
        refine hJ _ _ hK33 ?_
        clear hJ J hb33
        try simp only [Act.put, List.setIfInBounds_toArray, List.set_cons_zero, List.set_cons_succ]
        refine' hold_sole ?_ ?_ (fun J hJ => ?_)
        rotate_left 1
        · simp only [List.getElem?_toArray, List.getElem?_cons_zero, List.getElem?_cons_succ]; exact rfl
        · exact rfl
        go_simp
        refine (HG.out _ (st3 HBr.out hK33)).mono ?_
        rintro e w34 ⟨rfl, hb34⟩
        have hK34 : Below wr.heap.size wr w34 := st3 hK33 hb34
        refine hJ _ _ hK34 ?_
        clear hJ J hb34
        try simp only [Act.put, List.setIfInBounds_toArray, List.set_cons_zero, List.set_cons_succ]
        repeat (first
            | (refine' hold_skip ?_ ?_ ?_
               rotate_left 1
               · simp only [List.getElem?_toArray, List.getElem?_cons_zero, List.getElem?_cons_succ]; exact rfl
               · exact rfl
               simp only [Act.put, List.setIfInBounds_toArray, List.set_cons_zero, List.set_cons_succ])
            | (refine' hold_want ?_ ?_ (fun J hJ => ?_)
               rotate_left 1
               · simp only [List.getElem?_toArray, List.getElem?_cons_zero, List.getElem?_cons_succ]; exact rfl
               · exact rfl
               first
               | (refine quiet_load_pat _ rfl w.heap.size [.bool st, .bool en, c0, c1, c2, c3, c4, c5, c6, c7, c8, .int .i64 gr] rfl (fun w' ⟨L, hL⟩ => hL ▸ HP12.out _ (HLow.out _ (st3 HBr.out L.ok))) ?_; refine hJ _ ?_; clear hJ J; try simp only [Act.put, List.setIfInBounds_toArray, List.set_cons_zero, List.set_cons_succ])
               | (refine quiet_load_refpat _ rfl w4.heap.size C rfl HC1.out (fun w' ⟨L, hL⟩ => hL ▸ HPB.out _ (st3 HBr.out L.ok)) ?_; refine hJ _ ?_; clear hJ J; try simp only [Act.put, List.setIfInBounds_toArray, List.set_cons_zero, List.set_cons_succ])
               | (refine quiet_load_node9 _ rfl w.heap.size 2 [c0, c1, c2, c3, c4, c5, c6, c7, c8] rfl (fun w' ⟨L, hL⟩ => hL ▸ HN9.out _ (HLow.out _ (st3 HBr.out L.ok))) ?_; refine hJ _ ?_; clear hJ J; try simp only [Act.put, List.setIfInBounds_toArray, List.set_cons_zero, List.set_cons_succ])
               | (refine quiet_load_node9 _ rfl (w.heap.size + 1) 0 [d0, d1, d2, d3, d4, d5, d6, d7, d8] rfl (fun w' ⟨L, hL⟩ => hL ▸ HD9.out _ (HLow.out _ (st3 HBr.out L.ok))) ?_; refine hJ _ ?_; clear hJ J; try simp only [Act.put, List.setIfInBounds_toArray, List.set_cons_zero, List.set_cons_succ])
               | (refine quiet_load_refnode5 _ rfl w4.heap.size 2 rs rfl (fun w' ⟨L, hL⟩ => hL ▸ HRoot.out _ (st3 HBr.out L.ok)) ?_; refine hJ _ ?_; clear hJ J; try simp only [Act.put, List.setIfInBounds_toArray, List.set_cons_zero, List.set_cons_succ])
               | (refine quiet_extract _ _ rfl _ _ rfl rfl ?_; refine hJ _ ?_; clear hJ J; try simp only [Act.put, List.setIfInBounds_toArray, List.set_cons_zero, List.set_cons_succ])
               | (go_big_quiet_op; refine hJ _ ?_; clear hJ J; try simp only [Act.put, List.setIfInBounds_toArray, List.set_cons_zero, List.set_cons_succ])))
        refine' hold_sole ?_ ?_ (fun J hJ => ?_)
        rotate_left 1
        · simp only [List.getElem?_toArray, List.getElem?_cons_zero, List.getElem?_cons_succ]; exact rfl
        · exact rfl
        go_simp
        refine (HSz.out _ (st3 HBr.out hK34)).mono ?_
        rintro e w35 ⟨rfl, hb35⟩
        have hK35 : Below wr.heap.size wr w35 := st3 hK34 hb35
        refine hJ _ _ hK35 ?_
        clear hJ J hb35
        try simp only [Act.put, List.setIfInBounds_toArray, List.set_cons_zero, List.set_cons_succ]
        refine' hold_sole ?_ ?_ (fun J hJ => ?_)
        rotate_left 1
        · simp only [List.getElem?_toArray, List.getElem?_cons_zero, List.getElem?_cons_succ]; exact rfl
        · exact rfl
        go_simp
        refine (HSr.out _ (st3 HBr.out hK35)).mono ?_
        rintro e w36 ⟨rfl, hb36⟩
        have hK36 : Below wr.heap.size wr w36 := st3 hK35 hb36
        refine hJ _ _ hK36 ?_
        clear hJ J hb36
        try simp only [Act.put, List.setIfInBounds_toArray, List.set_cons_zero, List.set_cons_succ]
        repeat (first
            | (refine' hold_skip ?_ ?_ ?_
               rotate_left 1
               · simp only [List.getElem?_toArray, List.getElem?_cons_zero, List.getElem?_cons_succ]; exact rfl
               · exact rfl
               simp only [Act.put, List.setIfInBounds_toArray, List.set_cons_zero, List.set_cons_succ])
            | (refine' hold_want ?_ ?_ (fun J hJ => ?_)
               rotate_left 1
               · simp only [List.getElem?_toArray, List.getElem?_cons_zero, List.getElem?_cons_succ]; exact rfl
               · exact rfl
               first
               | (refine quiet_load_pat _ rfl w.heap.size [.bool st, .bool en, c0, c1, c2, c3, c4, c5, c6, c7, c8, .int .i64 gr] rfl (fun w' ⟨L, hL⟩ => hL ▸ HP12.out _ (HLow.out _ (st3 HBr.out L.ok))) ?_; refine hJ _ ?_; clear hJ J; try simp only [Act.put, List.setIfInBounds_toArray, List.set_cons_zero, List.set_cons_succ])
               | (refine quiet_load_refpat _ rfl w4.heap.size C rfl HC1.out (fun w' ⟨L, hL⟩ => hL ▸ HPB.out _ (st3 HBr.out L.ok)) ?_; refine hJ _ ?_; clear hJ J; try simp only [Act.put, List.setIfInBounds_toArray, List.set_cons_zero, List.set_cons_succ])
               | (refine quiet_load_node9 _ rfl w.heap.size 2 [c0, c1, c2, c3, c4, c5, c6, c7, c8] rfl (fun w' ⟨L, hL⟩ => hL ▸ HN9.out _ (HLow.out _ (st3 HBr.out L.ok))) ?_; refine hJ _ ?_; clear hJ J; try simp only [Act.put, List.setIfInBounds_toArray, List.set_cons_zero, List.set_cons_succ])
               | (refine quiet_load_node9 _ rfl (w.heap.size + 1) 0 [d0, d1, d2, d3, d4, d5, d6, d7, d8] rfl (fun w' ⟨L, hL⟩ => hL ▸ HD9.out _ (HLow.out _ (st3 HBr.out L.ok))) ?_; refine hJ _ ?_; clear hJ J; try simp only [Act.put, List.setIfInBounds_toArray, List.set_cons_zero, List.set_cons_succ])
               | (refine quiet_load_refnode5 _ rfl w4.heap.size 2 rs rfl (fun w' ⟨L, hL⟩ => hL ▸ HRoot.out _ (st3 HBr.out L.ok)) ?_; refine hJ _ ?_; clear hJ J; try simp only [Act.put, List.setIfInBounds_toArray, List.set_cons_zero, List.set_cons_succ])
               | (refine quiet_extract _ _ rfl _ _ rfl rfl ?_; refine hJ _ ?_; clear hJ J; try simp only [Act.put, List.setIfInBounds_toArray, List.set_cons_zero, List.set_cons_succ])
               | (go_big_quiet_op; refine hJ _ ?_; clear hJ J; try simp only [Act.put, List.setIfInBounds_toArray, List.set_cons_zero, List.set_cons_succ])))
        refine' hold_sole ?_ ?_ (fun J hJ => ?_)
        rotate_left 1
        · simp only [List.getElem?_toArray, List.getElem?_cons_zero, List.getElem?_cons_succ]; exact rfl
        · exact rfl
        go_simp
        refine (HDp.out _ (st3 HBr.out hK36)).mono ?_
        rintro e w37 ⟨rfl, hb37⟩
        have hK37 : Below wr.heap.size wr w37 := st3 hK36 hb37
        refine hJ _ _ hK37 ?_
        clear hJ J hb37
        try simp only [Act.put, List.setIfInBounds_toArray, List.set_cons_zero, List.set_cons_succ]
        refine' hold_sole ?_ ?_ (fun J hJ => ?_)
        rotate_left 1
        · simp only [List.getElem?_toArray, List.getElem?_cons_zero, List.getElem?_cons_succ]; exact rfl
        · exact rfl
        go_simp
        refine (HDr.out _ (st3 HBr.out hK37)).mono ?_
        rintro e w38 ⟨rfl, hb38⟩
        have hK38 : Below wr.heap.size wr w38 := st3 hK37 hb38
        refine hJ _ _ hK38 ?_
        clear hJ J hb38
        try simp only [Act.put, List.setIfInBounds_toArray, List.set_cons_zero, List.set_cons_succ]
        repeat (first
            | (refine' hold_skip ?_ ?_ ?_
               rotate_left 1
               · simp only [List.getElem?_toArray, List.getElem?_cons_zero, List.getElem?_cons_succ]; exact rfl
               · exact rfl
               simp only [Act.put, List.setIfInBounds_toArray, List.set_cons_zero, List.set_cons_succ])
            | (refine' hold_want ?_ ?_ (fun J hJ => ?_)
               rotate_left 1
               · simp only [List.getElem?_toArray, List.getElem?_cons_zero, List.getElem?_cons_succ]; exact rfl
               · exact rfl
               first
               | (refine quiet_load_pat _ rfl w.heap.size [.bool st, .bool en, c0, c1, c2, c3, c4, c5, c6, c7, c8, .int .i64 gr] rfl (fun w' ⟨L, hL⟩ => hL ▸ HP12.out _ (HLow.out _ (st3 HBr.out L.ok))) ?_; refine hJ _ ?_; clear hJ J; try simp only [Act.put, List.setIfInBounds_toArray, List.set_cons_zero, List.set_cons_succ])
               | (refine quiet_load_refpat _ rfl w4.heap.size C rfl HC1.out (fun w' ⟨L, hL⟩ => hL ▸ HPB.out _ (st3 HBr.out L.ok)) ?_; refine hJ _ ?_; clear hJ J; try simp only [Act.put, List.setIfInBounds_toArray, List.set_cons_zero, List.set_cons_succ])
               | (refine quiet_load_node9 _ rfl w.heap.size 2 [c0, c1, c2, c3, c4, c5, c6, c7, c8] rfl (fun w' ⟨L, hL⟩ => hL ▸ HN9.out _ (HLow.out _ (st3 HBr.out L.ok))) ?_; refine hJ _ ?_; clear hJ J; try simp only [Act.put, List.setIfInBounds_toArray, List.set_cons_zero, List.set_cons_succ])
               | (refine quiet_load_node9 _ rfl (w.heap.size + 1) 0 [d0, d1, d2, d3, d4, d5, d6, d7, d8] rfl (fun w' ⟨L, hL⟩ => hL ▸ HD9.out _ (HLow.out _ (st3 HBr.out L.ok))) ?_; refine hJ _ ?_; clear hJ J; try simp only [Act.put, List.setIfInBounds_toArray, List.set_cons_zero, List.set_cons_succ])
               | (refine quiet_load_refnode5 _ rfl w4.heap.size 2 rs rfl (fun w' ⟨L, hL⟩ => hL ▸ HRoot.out _ (st3 HBr.out L.ok)) ?_; refine hJ _ ?_; clear hJ J; try simp only [Act.put, List.setIfInBounds_toArray, List.set_cons_zero, List.set_cons_succ])
               | (refine quiet_extract _ _ rfl _ _ rfl rfl ?_; refine hJ _ ?_; clear hJ J; try simp only [Act.put, List.setIfInBounds_toArray, List.set_cons_zero, List.set_cons_succ])
               | (go_big_quiet_op; refine hJ _ ?_; clear hJ J; try simp only [Act.put, List.setIfInBounds_toArray, List.set_cons_zero, List.set_cons_succ])))
        refine' hold_sole ?_ ?_ (fun J hJ => ?_)
        rotate_left 1
        · simp only [List.getElem?_toArray, List.getElem?_cons_zero, List.getElem?_cons_succ]; exact rfl
        · exact rfl
        go_simp
        refine (HSm.out _ (st3 HBr.out hK38)).mono ?_
        rintro e w39 ⟨rfl, hb39⟩
        have hK39 : Below wr.heap.size wr w39 := st3 hK38 hb39
        refine hJ _ _ hK39 ?_
        clear hJ J hb39
        try simp only [Act.put, List.setIfInBounds_toArray, List.set_cons_zero, List.set_cons_succ]
        refine' hold_sole ?_ ?_ (fun J hJ => ?_)
        rotate_left 1
        · simp only [List.getElem?_toArray, List.getElem?_cons_zero, List.getElem?_cons_succ]; exact rfl
        · exact rfl
        go_simp
        refine (HNd.out _ (st3 HBr.out hK39)).mono ?_
        rintro e w40 ⟨ys40, rfl, hm40, hb40⟩
        have hK40 : Below wr.heap.size wr w40 := st3 hK39 hb40
        refine hJ _ _ hK40 ?_
        clear hJ J hb40
        try simp only [Act.put, List.setIfInBounds_toArray, List.set_cons_zero, List.set_cons_succ]
        refine' hold_sole ?_ ?_ (fun J hJ => ?_)
        rotate_left 1
        · simp only [List.getElem?_toArray, List.getElem?_cons_zero, List.getElem?_cons_succ]; exact rfl
        · exact rfl
        go_simp
        refine (HSmr.out _ _ (st3 HBr.out hK40) hm40).mono ?_
        rintro e w41 ⟨rfl, hb41⟩
        have hK41 : Below wr.heap.size wr w41 := st3 hK40 hb41
        refine hJ _ _ hK41 ?_
        clear hJ J hb41
        try simp only [Act.put, List.setIfInBounds_toArray, List.set_cons_zero, List.set_cons_succ]
        repeat (first
            | (refine' hold_skip ?_ ?_ ?_
               rotate_left 1
               · simp only [List.getElem?_toArray, List.getElem?_cons_zero, List.getElem?_cons_succ]; exact rfl
               · exact rfl
               simp only [Act.put, List.setIfInBounds_toArray, List.set_cons_zero, List.set_cons_succ])
            | (refine' hold_want ?_ ?_ (fun J hJ => ?_)
               rotate_left 1
               · simp only [List.getElem?_toArray, List.getElem?_cons_zero, List.getElem?_cons_succ]; exact rfl
               · exact rfl
               first
               | (refine quiet_load_pat _ rfl w.heap.size [.bool st, .bool en, c0, c1, c2, c3, c4, c5, c6, c7, c8, .int .i64 gr] rfl (fun w' ⟨L, hL⟩ => hL ▸ HP12.out _ (HLow.out _ (st3 HBr.out L.ok))) ?_; refine hJ _ ?_; clear hJ J; try simp only [Act.put, List.setIfInBounds_toArray, List.set_cons_zero, List.set_cons_succ])
               | (refine quiet_load_refpat _ rfl w4.heap.size C rfl HC1.out (fun w' ⟨L, hL⟩ => hL ▸ HPB.out _ (st3 HBr.out L.ok)) ?_; refine hJ _ ?_; clear hJ J; try simp only [Act.put, List.setIfInBounds_toArray, List.set_cons_zero, List.set_cons_succ])
               | (refine quiet_load_node9 _ rfl w.heap.size 2 [c0, c1, c2, c3, c4, c5, c6, c7, c8] rfl (fun w' ⟨L, hL⟩ => hL ▸ HN9.out _ (HLow.out _ (st3 HBr.out L.ok))) ?_; refine hJ _ ?_; clear hJ J; try simp only [Act.put, List.setIfInBounds_toArray, List.set_cons_zero, List.set_cons_succ])
               | (refine quiet_load_node9 _ rfl (w.heap.size + 1) 0 [d0, d1, d2, d3, d4, d5, d6, d7, d8] rfl (fun w' ⟨L, hL⟩ => hL ▸ HD9.out _ (HLow.out _ (st3 HBr.out L.ok))) ?_; refine hJ _ ?_; clear hJ J; try simp only [Act.put, List.setIfInBounds_toArray, List.set_cons_zero, List.set_cons_succ])
               | (refine quiet_load_refnode5 _ rfl w4.heap.size 2 rs rfl (fun w' ⟨L, hL⟩ => hL ▸ HRoot.out _ (st3 HBr.out L.ok)) ?_; refine hJ _ ?_; clear hJ J; try simp only [Act.put, List.setIfInBounds_toArray, List.set_cons_zero, List.set_cons_succ])
               | (refine quiet_extract _ _ rfl _ _ rfl rfl ?_; refine hJ _ ?_; clear hJ J; try simp only [Act.put, List.setIfInBounds_toArray, List.set_cons_zero, List.set_cons_succ])
               | (go_big_quiet_op; refine hJ _ ?_; clear hJ J; try simp only [Act.put, List.setIfInBounds_toArray, List.set_cons_zero, List.set_cons_succ])))
        refine hold_done ?_
        have HE := Lib.hid (HLow.out _ (st3 HBr.out hK41))
        go_wp2_with fail
        go_ret
        exact ⟨rfl, HbW.out.trans (HE.out.mono HbW.out.size)⟩
end Go.Proofs.Ytaanhijjhllckaa
