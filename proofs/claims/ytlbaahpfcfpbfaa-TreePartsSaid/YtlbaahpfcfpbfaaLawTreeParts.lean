/- The walk of law 5's TreeParts. -/
import Derived.Test.YtlbaahpfcfpbfaaTreeAwake
namespace Go.Proofs.Ytlbaahpfcfpbfaa
open Go.RowKit
theorem at_leaf_count {x : Nd} {gr : Int} (h : goodP x gr = true) {y : Nd} (hy : y ∈ x.nodes) :
    sizeOfN y = y.count ∧ depthOfN y = y.deep ∧ y.deep < x.deep ∧ accN (y.pre.take 100000) [] = y.sets ∧ y.sets.length ≤ x.sets.length := by
  obtain ⟨h1, h2⟩ := good_size h
  have h3 := count_mem hy
  have h4 := deep_mem hy
  have hs := (good_setless h).1
  have hk : x.kind ≠ 1 := fun hk => by rw [good_set h hk] at hy; cases hy
  have hys : y.setless = true := by
    cases x with
    | mk k s lo hi n l =>
      unfold Nd.setless at hs
      rw [if_neg (show ¬ k = 1 from hk)] at hs
      exact setless_mem hs (show y ∈ l from hy)
  refine ⟨by unfold sizeOfN; omega, by unfold depthOfN; omega, h4, ?_, sets_part hy hk⟩
  rw [List.take_of_length_le (by rw [Nd.pre_length]; omega), accN_pre y [] hys]
  rfl
theorem at_root_count {x : Nd} {gr : Int} (h : goodP x gr = true) : sizeOfN x = x.count ∧ depthOfN x = x.deep ∧ accN (x.pre.take 100000) [] = x.sets := by
  obtain ⟨h1, h2⟩ := good_size h
  refine ⟨by unfold sizeOfN; omega, by unfold depthOfN; omega, ?_⟩
  rw [List.take_of_length_le (by rw [Nd.pre_length]; omega), accN_pre x [] (good_setless h).1]
  rfl
/-- twelve cells lie at b -/
def Pat12 (w : World) (b : Nat) (cs : List Value) : Prop := cs.length = 12 ∧ ∀ q, q < 12 → w.cell? ⟨b, q, none⟩ = cs[q]?
theorem infoPat : (Try.prog.info? 33).map (·.size) = some 12 := by kernel_rfl
theorem loadPat {w : World} {b : Nat} {cs : List Value} (h : Pat12 w b cs) : (loadVar 33 ⟨b, 0, none⟩).run Try.prog w = .ok (.agg cs.toArray) w := by
  have hl := run_loadCells_list (P := Try.prog) w ⟨b, 0, none⟩ cs (fun j v hv => by
    have hj : j < 12 := by have := (List.getElem?_eq_some_iff.mp hv).1; rw [h.1] at this; exact this
    rw [addr_at, Nat.zero_add, h.2 j hj]; exact hv)
  have hi := infoPat
  rw [h.1] at hl
  cases hq : Try.prog.info? 33 with
  | none => simp [hq] at hi
  | some i =>
    have hs : i.size = 12 := by simpa [hq] using hi
    have hagg : (isAgg 33).run Try.prog w = .ok true w := by
      unfold isAgg
      rw [Sem.run_bind, run_underlying Try.underlying33 w]
      rfl
    simp [loadVar, Sem.run_bind, hagg, sizeOf, typeInfo, hq, hs, hl]
theorem quiet_load_pat {o : Oper} {a : Act} {C : World → Prop} {K : Act → Prop} (x : Operand) (ho : o.op = .load 33 x) (b : Nat) (cs : List Value) (hx : a.eval x = .pointer (some ⟨b, 0, none⟩))
    (h : ∀ w, C w → Pat12 w b cs) (hK : K (a.put o.dst (.agg cs.toArray))) : o.quiet Try.prog a C K :=
  ⟨.agg cs.toArray, fun w hw => by
    unfold Oper.quietAt execOp
    simp only [ho, hx, Instr.loadAt, Instr.sureAddr, Sem.run_bind, Sem.run_pure, Result.andThen_ok, loadPat (h w hw)]
    exact ⟨rfl, rfl⟩, hK⟩
theorem cells12 {w : World} {b : Nat} {cs : Array Value} {t : TypeId} (h : w.heap[b]? = some (.cells cs t)) (hs : cs.size = 12) : Pat12 w b cs.toList := ⟨by simpa using hs, fun q hq => by simp [World.cell?, h]⟩
theorem cells9at2 {w : World} {b : Nat} {cs : Array Value} {t : TypeId} (h : w.heap[b]? = some (.cells cs t)) (ds : List Value) (hd : ds.length = 9) (hs : ∀ q, q < 9 → cs[2 + q]? = ds[q]?) : Node9 w b 2 ds := ⟨hd, fun q hq => by rw [← hs q hq]; simp [World.cell?, h]⟩
theorem root_cells (x0 x1 : Value) (c0 c1 c2 c3 c4 c5 c6 c7 c8 y : Value) : ∀ q, q < 9 → (#[x0, x1, c0, c1, c2, c3, c4, c5, c6, c7, c8, y] : Array Value)[2 + q]? = [c0, c1, c2, c3, c4, c5, c6, c7, c8][q]? := by
  intro q hq
  have hq' : q = 0 ∨ q = 1 ∨ q = 2 ∨ q = 3 ∨ q = 4 ∨ q = 5 ∨ q = 6 ∨ q = 7 ∨ q = 8 := by omega
  rcases hq' with rfl | rfl | rfl | rfl | rfl | rfl | rfl | rfl | rfl <;> rfl
/-- a node of one node that lies in memory -/
theorem at_bracket {W : World} {b : Nat} {x : Nd} {cs : List Value} (hx : Nd.at W x cs) (hc : cs.length = 9) (h : W.heap[b]? = some (.cells cs.toArray 28)) :
    Nd.at W (.mk 6 0 0 0 0 [x]) [.int .i64 6, .int .u64 0, .int .u64 0, .int .u64 0, .int .u64 0, .int .i64 0, .int .i64 0, .int .i64 0, .slice (some ⟨b, 0, none⟩) 1 1] := by
  have hf : ∀ n : Int, n = 0 ∨ n = 6 → fits64 n := by rintro n (rfl | rfl) <;> rfl
  rw [at_mk]
  refine ⟨hf 6 (by simp), hf 0 (by simp), hf 0 (by simp), hf 0 (by simp), some ⟨b, 0, none⟩, 1, ?_, by simp [maxLen], .inr ⟨b, 0, rfl, Nat.le_refl _, (Array.getElem?_eq_some_iff.1 h).1, ?_⟩⟩
  · simp only [word_zero]; rfl
  · rw [nodesAt_cons, nodesAt_nil]
    exact ⟨⟨cs, hc, fun q hq => by simp [World.cell?, h], hx⟩, trivial⟩
set_option maxRecDepth 100000 in
set_option maxHeartbeats 8000000 in
theorem treeParts_walk (st en : Bool) (x : Nd) (cs : List Value) (gr : Int) (_wg : fits64 gr) (w : World) (hat : Nd.at w x cs) :
    Calls Try.prog 5 #[.agg (.bool st :: .bool en :: (cs ++ [.int .i64 gr])).toArray] w fun e w' => e = .returned (.bool true) ∧ Below w.heap.size w w' := by
  have hw9 := awake5_any
  obtain ⟨k, s, lo, hi, n, l⟩ := x
  have hat0 := hat
  rw [at_mk] at hat
  obtain ⟨_, _, _, _, a, cap, hcs, hmax, hl⟩ := hat
  have hpc : (.bool st :: .bool en :: (cs ++ [.int .i64 gr])) = [.bool st, .bool en, .int .i64 k, .int .u64 (word s 0), .int .u64 (word s 1), .int .u64 (word s 2), .int .u64 (word s 3), .int .i64 lo, .int .i64 hi, .int .i64 n, .slice a l.length cap, .int .i64 gr] := by rw [hcs]; rfl
  rw [hpc]
  obtain ⟨w0, hw0⟩ : ∃ w0, w0 = w.alloc (.cells #[.bool st, .bool en, .int .i64 k, .int .u64 (word s 0), .int .u64 (word s 1), .int .u64 (word s 2), .int .u64 (word s 3), .int .i64 lo, .int .i64 hi, .int .i64 n, .slice a l.length cap, .int .i64 gr] 33) := ⟨_, rfl⟩
  have hs0 : w0.heap.size = w.heap.size + 1 := by rw [hw0]; simp
  have hb0 : Below w.heap.size w w0 := by rw [hw0]; exact (Below.refl _ _).alloc (Nat.le_refl _) _
  have hP0 : w0.heap[w.heap.size]? = some (.cells #[.bool st, .bool en, .int .i64 k, .int .u64 (word s 0), .int .u64 (word s 1), .int .u64 (word s 2), .int .u64 (word s 3), .int .i64 lo, .int .i64 hi, .int .i64 n, .slice a l.length cap, .int .i64 gr] 33) := by rw [hw0]; exact World.alloc_heap_new w _
  have hP : ∀ w', Below w0.heap.size w0 w' → w'.heap[w.heap.size]? = some (.cells #[.bool st, .bool en, .int .i64 k, .int .u64 (word s 0), .int .u64 (word s 1), .int .u64 (word s 2), .int .u64 (word s 3), .int .i64 lo, .int .i64 hi, .int .i64 n, .slice a l.length cap, .int .i64 gr] 33) := fun w' h => block_below hP0 h (by omega)
  have hN : ∀ w', Below w0.heap.size w0 w' → Nd.at w' (.mk k s lo hi n l) cs := fun w' h => Nd.at_below (hb0.trans (h.mono hb0.size)) (Nat.le_refl _) _ _ hat0
  have hmx : l.length ≤ 9223372036854775807 := Nat.le_trans hmax (by decide)
  have hgP := fun w' h => good_walk st en gr (hN w' h)
  rw [show patCells st en cs gr = [.bool st, .bool en, .int .i64 k, .int .u64 (word s 0), .int .u64 (word s 1), .int .u64 (word s 2), .int .u64 (word s 3), .int .i64 lo, .int .i64 hi, .int .i64 n, .slice a l.length cap, .int .i64 gr] from hpc] at hgP
  have hvy := fun w' h => heavy_any 60 _ cs w' (by decide) (hN w' h)
  have Hcs := Lib.hid hcs
  rw [hcs] at hvy
  clear hpc hcs hat0
  generalize hH : heavyN 60 (.mk k s lo hi n l) = hv at hvy
  generalize hG : goodP (.mk k s lo hi n l) gr = gd at hgP
  clear hH
  have HG := Lib.hid hG
  have HP := Lib.hid hP
  have HN := Lib.hid hN
  have Hw0 := Lib.hid hw0
  clear hG hP hN hw0
  have hcell : ∀ w', Below w0.heap.size w0 w' → ∀ q, w'.cell? ⟨w.heap.size, q, none⟩ = (#[.bool st, .bool en, .int .i64 k, .int .u64 (word s 0), .int .u64 (word s 1), .int .u64 (word s 2), .int .u64 (word s 3), .int .i64 lo, .int .i64 hi, .int .i64 n, .slice a l.length cap, .int .i64 gr] : Array Value)[q]? := fun w' h => cells_at (HP.out w' h)
  have Hcell := Lib.hid hcell
  clear hcell
  have hvy := Lib.hid hvy
  have hgP := Lib.hid hgP
  go_enter Try.func5, Try.ntmps5
  go_wp2_with fail
  rw [← Hw0.out]
  refine (hw9 w0).mono ?_
  clear hw9
  rintro e w1 ⟨rfl, hb1⟩
  have hc1 := Hcell.out w1 hb1
  have hv1 := hvy.out w1 hb1
  have HB1 := Lib.hid hb1
  clear hb1
  cases hv with
  | true =>
    go_wp2_with (go_at_call 15; refine hv1.mono ?_; clear hv1 hc1; rintro e w2 ⟨rfl, hb2⟩)
    go_ret
    exact ⟨rfl, hb0.trans ((HB1.out.trans (hb2.mono HB1.out.size)).mono hb0.size)⟩
  | false =>
  go_wp2_with (go_at_call 15; refine hv1.mono ?_; clear hv1 hc1; rintro e w2 ⟨rfl, hb2⟩; have HB2 := Lib.hid (HB1.out.trans (hb2.mono HB1.out.size)); have hc2 := Hcell.out w2 HB2.out; clear hb2)
  refine (hgP.out w2 HB2.out).mono ?_
  rintro e w3 ⟨rfl, hb3⟩
  have HB3 := Lib.hid (HB2.out.trans (hb3.mono HB2.out.size))
  have hc3 := Hcell.out w3 HB3.out
  clear hb3 hc2
  cases gd with
  | false =>
    go_wp2_with fail
    go_ret
    exact ⟨rfl, hb0.trans (HB3.out.mono hb0.size)⟩
  | true =>
  obtain ⟨r1, r2, r3⟩ := at_root_count HG.out
  have hsz := size_walk (HN.out w3 HB3.out)
  rw [r1] at hsz
  have hcnt : (Nd.mk k s lo hi n l).count ≤ 2000 ∧ (Nd.mk k s lo hi n l).deep ≤ 64 := good_size HG.out
  rw [Hcs.out] at hsz
  have hcm : (Nd.mk k s lo hi n l).count = 1 + counts l := count_mk _ _ _ _ _ _
  have HR1 := Lib.hid r1
  have HR2 := Lib.hid r2
  have HR3 := Lib.hid r3
  obtain ⟨C, hC⟩ : ∃ C, C = (Nd.mk k s lo hi n l).count := ⟨_, rfl⟩
  rw [← hC] at hsz hcm hcnt
  have HC := Lib.hid hC
  have Hcm := Lib.hid hcm
  have hC2 : (C : Int) ≤ 2000 := by omega
  have Hcnt := Lib.hid hcnt
  have Hsz := Lib.hid hsz
  clear r1 r2 r3 hC hcm hcnt hsz
  go_wp2_with (go_at_call 12; refine Hsz.out.mono ?_; clear hc3; rintro e w4 ⟨rfl, hb4⟩; have HB4 := Lib.hid (HB3.out.trans (hb4.mono HB3.out.size)); have hc4 := Hcell.out w4 HB4.out; clear hb4)
  clear hc4
  go_loopw [4, 5] (fun v i wr => ∃ j : Nat, v = .int .i64 ((1 + counts (l.take j) : Nat) : Int) ∧ i = .int .i64 j ∧ j ≤ l.length ∧ Below w0.heap.size w0 wr) (fun _ i _ => l.length - (intOf i).toNat)
  case atStart => exact ⟨0, by rw [List.take_zero, counts_nil]; rfl, rfl, Nat.zero_le _, HB4.out⟩
  case round =>
    obtain ⟨j, rfl, rfl, hjl, hB⟩ := hrel
    have hc := Hcell.out wr hB
    by_cases hjn : j < l.length
    · have hdj : decide ((j : Int) < l.length) = true := by simp; omega
      rcases hl with hl | ⟨b, off, rfl, hcap, hbw, hnodes⟩
      · omega
      obtain ⟨cs1, hcs1, hcell1, hchild1⟩ := nodes_get w b l off hnodes j hjn
      obtain ⟨m1, m2, m3, m4, m5⟩ := at_leaf_count HG.out (show l[j] ∈ (Nd.mk k s lo hi n l).nodes from List.getElem_mem hjn)
      have hBw : ∀ w', Below wr.heap.size wr w' → Below w.heap.size w w' := fun w' h => hb0.trans ((hB.trans (h.mono hB.size)).mono hb0.size)
      have hBp : ∀ w', Below wr.heap.size wr w' → Below w0.heap.size w0 w' := fun w' h => hB.trans (h.mono hB.size)
      have h9 : ∀ w', Below wr.heap.size wr w' → Node9 w' b (off + j * 9) cs1 := fun w' h => ⟨hcs1, fun q hq => by rw [(hBw w' h).cell (p := ⟨b, off + j * 9 + q, none⟩) hbw]; exact hcell1 q hq⟩
      have h9R : ∀ w', Below wr.heap.size wr w' → Node9 w' w.heap.size 2 [.int .i64 k, .int .u64 (word s 0), .int .u64 (word s 1), .int .u64 (word s 2), .int .u64 (word s 3), .int .i64 lo, .int .i64 hi, .int .i64 n, .slice (some ⟨b, off, none⟩) l.length cap] := fun w' h => cells9at2 (HP.out w' (hBp w' h)) _ rfl (root_cells _ _ _ _ _ _ _ _ _ _ _ _)
      have hch : ∀ w', Below wr.heap.size wr w' → Nd.at w' l[j] cs1 := fun w' h => Nd.at_below (hBw w' h) (Nat.le_refl _) _ _ hchild1
      have hszC := size_walk (hch wr (Below.refl _ _))
      rw [m1] at hszC
      have hstep := take_succ_counts l j hjn
      have htl := counts_take_le l (j + 1)
      have hcb : (((1 + counts (l.take j) : Nat) : Int)) + (l[j].count : Int) ≤ 2000 := by have h1 := Hcm.out; have h2 := Hcnt.out.1; omega
      have hcb0 : 0 ≤ (((1 + counts (l.take j) : Nat) : Int)) := by omega
      have hnext : (((1 + counts (l.take j) : Nat) : Int)) + (l[j].count : Int) = ((1 + counts (l.take (j + 1)) : Nat) : Int) := by omega
      have hdC := fun w' h => Depth_any (hch w' h)
      have hdR := fun w' h => Depth_any (HN.out w' (hBp w' h))
      have hsC := fun w' h => sets_walk (hch w' h)
      have hsR := fun w' h => sets_walk (HN.out w' (hBp w' h))
      rw [m2] at hdC
      rw [HR2.out, Hcs.out] at hdR
      rw [m4] at hsC
      rw [HR3.out, Hcs.out] at hsR
      have hdlt : decide (((Nd.mk k s (lo) hi n l).deep : Int) ≤ (l[j].deep : Int)) = false := by simp; omega
      have hslt : decide (((Nd.mk k s (lo) hi n l).sets.length : Int) < (l[j].sets.length : Int)) = false := by simp; omega
      have hdlt2 : decide ((Nd.mk k s (lo) hi n l).deep ≤ l[j].deep) = false := by simp; omega
      have hslt2 : decide ((Nd.mk k s (lo) hi n l).sets.length < l[j].sets.length) = false := by simp; omega
      generalize l[j].count = c1 at *
      generalize l[j].deep = d1 at *
      generalize l[j].sets = S1 at *
      generalize (Nd.mk k s lo hi n l).deep = dR at *
      generalize (Nd.mk k s lo hi n l).sets = SR at *
      generalize ((1 + counts (l.take j) : Nat) : Int) = kc at *
      have Hnext := Lib.hid hnext
      have Hc9 := Lib.hid h9
      have Hc9R := Lib.hid h9R
      have HdC := Lib.hid hdC
      have HdR := Lib.hid hdR
      have HsC := Lib.hid hsC
      have HsR := Lib.hid hsR
      have h9r := h9 wr (Below.refl _ _)
      clear hnext h9 h9R hdC hdR hsC hsR hch hchild1 hcell1 hnodes m1 m2 m3 m4 m5 hstep htl hBw
      go_wp2_with (first | (refine wpList_load_node rfl _ rfl b (off + j * 9) _ rfl h9r ?_) | (go_at_call 12; refine hszC.mono ?_; clear hszC hc; rintro e w5 ⟨rfl, hb5⟩) | fail)
      have hne := Later.nonempty w5
      have hcL : ∀ (Z : Later w5) q, Z.val.cell? ⟨w.heap.size, q, none⟩ = (#[.bool st, .bool en, .int .i64 k, .int .u64 (word s 0), .int .u64 (word s 1), .int .u64 (word s 2), .int .u64 (word s 3), .int .i64 lo, .int .i64 hi, .int .i64 n, .slice (some ⟨b, off, none⟩) l.length cap, .int .i64 gr] : Array Value)[q]? := fun Z => Hcell.out Z.val (hBp _ (hb5.trans (Z.ok.mono hb5.size)))
      have hl1 : ∀ w', (∃ Z : Later w5, w' = Z.val) → Node9 w' b (off + j * 9) cs1 := fun w' hw' => by obtain ⟨Z, rfl⟩ := hw'; exact Hc9.out _ (hb5.trans (Z.ok.mono hb5.size))
      have hlR : ∀ w', (∃ Z : Later w5, w' = Z.val) → Node9 w' w.heap.size 2 [.int .i64 k, .int .u64 (word s 0), .int .u64 (word s 1), .int .u64 (word s 2), .int .u64 (word s 3), .int .i64 lo, .int .i64 hi, .int .i64 n, .slice (some ⟨b, off, none⟩) l.length cap] := fun w' hw' => by obtain ⟨Z, rfl⟩ := hw'; exact Hc9R.out _ (hb5.trans (Z.ok.mono hb5.size))
      have hdC := fun w' (h : Below w5.heap.size w5 w') => HdC.out w' (hb5.trans (h.mono hb5.size))
      have hdR := fun w' (h : Below w5.heap.size w5 w') => HdR.out w' (hb5.trans (h.mono hb5.size))
      have hsC := fun w' (h : Below w5.heap.size w5 w') => HsC.out w' (hb5.trans (h.mono hb5.size))
      have hsR := fun w' (h : Below w5.heap.size w5 w') => HsR.out w' (hb5.trans (h.mono hb5.size))
      have HB5 := Lib.hid (hBp _ hb5)
      clear hb5 h9r hBp
      refine wp_region_eager (.plain 0 (.plain 1 (.plain 2 (.plain 3 (.plain 4 (.plain 5 (.plain 7 (.plain 8 (.sole 6 (.sole 9 (.plain 10 (.plain 11 (.plain 12 (.plain 13 (.plain 14 (.plain 15 (.plain 16 (.plain 17 (.plain 20 (.plain 21 (.sole 18 (.plain 19 (.sole 22 (.plain 23 (.plain 24 (.plain 25 .done)))))))))))))))))))))))))) (W0 := w5) (Below.refl _ _) (by kernel_rfl) (by kernel_rfl) (fun c a d v w h => by cases d <;> exact h) ?_
      have hcur := (Below.refl w5.heap.size w5).drew
      repeat (first
          | (refine' eager_skip ?_ ?_ ?_
             rotate_left 1
             · simp only [List.getElem?_toArray, List.getElem?_cons_zero, List.getElem?_cons_succ]; exact rfl
             · exact rfl
             simp only [Act.put, List.setIfInBounds_toArray, List.set_cons_zero, List.set_cons_succ])
          | (refine' eager_want ?_ ?_ (fun K hK => ?_)
             rotate_left 1
             · simp only [List.getElem?_toArray, List.getElem?_cons_zero, List.getElem?_cons_succ]; exact rfl
             · exact rfl
             first
             | (refine quiet_load_node _ rfl b (off + j * 9) cs1 rfl hl1 ?_; refine hK _ ?_; clear hK K; try simp only [Act.put, List.setIfInBounds_toArray, List.set_cons_zero, List.set_cons_succ])
             | (refine quiet_load_node _ rfl w.heap.size 2 [.int .i64 k, .int .u64 (word s 0), .int .u64 (word s 1), .int .u64 (word s 2), .int .u64 (word s 3), .int .i64 lo, .int .i64 hi, .int .i64 n, .slice (some ⟨b, off, none⟩) l.length cap] rfl hlR ?_; refine hK _ ?_; clear hK K; try simp only [Act.put, List.setIfInBounds_toArray, List.set_cons_zero, List.set_cons_succ])
             | (go_big_quiet_op; refine hK _ ?_; clear hK K)))
      refine' eager_call ?_ ?_ (fun K hK => ?_)
      rotate_left 1
      · simp only [List.getElem?_toArray, List.getElem?_cons_zero, List.getElem?_cons_succ]; exact rfl
      · exact rfl
      go_simp
      refine (hdC _ hcur).mono ?_
      rintro e wn ⟨rfl, hb⟩
      refine hK _ _ hb ?_
      replace hcur := hcur.trans (hb.mono hcur.size)
      clear hb hK K
      try simp only [Act.put, List.setIfInBounds_toArray, List.set_cons_zero, List.set_cons_succ]
      refine' eager_call ?_ ?_ (fun K hK => ?_)
      rotate_left 1
      · simp only [List.getElem?_toArray, List.getElem?_cons_zero, List.getElem?_cons_succ]; exact rfl
      · exact rfl
      go_simp
      refine (hdR _ hcur).mono ?_
      rintro e wn ⟨rfl, hb⟩
      refine hK _ _ hb ?_
      replace hcur := hcur.trans (hb.mono hcur.size)
      clear hb hK K
      try simp only [Act.put, List.setIfInBounds_toArray, List.set_cons_zero, List.set_cons_succ]
      repeat (first
          | (refine' eager_skip ?_ ?_ ?_
             rotate_left 1
             · simp only [List.getElem?_toArray, List.getElem?_cons_zero, List.getElem?_cons_succ]; exact rfl
             · exact rfl
             simp only [Act.put, List.setIfInBounds_toArray, List.set_cons_zero, List.set_cons_succ])
          | (refine' eager_want ?_ ?_ (fun K hK => ?_)
             rotate_left 1
             · simp only [List.getElem?_toArray, List.getElem?_cons_zero, List.getElem?_cons_succ]; exact rfl
             · exact rfl
             first
             | (refine quiet_load_node _ rfl b (off + j * 9) cs1 rfl hl1 ?_; refine hK _ ?_; clear hK K; try simp only [Act.put, List.setIfInBounds_toArray, List.set_cons_zero, List.set_cons_succ])
             | (refine quiet_load_node _ rfl w.heap.size 2 [.int .i64 k, .int .u64 (word s 0), .int .u64 (word s 1), .int .u64 (word s 2), .int .u64 (word s 3), .int .i64 lo, .int .i64 hi, .int .i64 n, .slice (some ⟨b, off, none⟩) l.length cap] rfl hlR ?_; refine hK _ ?_; clear hK K; try simp only [Act.put, List.setIfInBounds_toArray, List.set_cons_zero, List.set_cons_succ])
             | (go_big_quiet_op; refine hK _ ?_; clear hK K)))
      refine' eager_call ?_ ?_ (fun K hK => ?_)
      rotate_left 1
      · simp only [List.getElem?_toArray, List.getElem?_cons_zero, List.getElem?_cons_succ]; exact rfl
      · exact rfl
      go_simp
      refine (hsC _ hcur).mono ?_
      rintro e wn ⟨sa1, sc1, rfl, _, hb, _⟩
      refine hK _ _ hb ?_
      replace hcur := hcur.trans (hb.mono hcur.size)
      clear hb hK K
      try simp only [Act.put, List.setIfInBounds_toArray, List.set_cons_zero, List.set_cons_succ]
      repeat (first
          | (refine' eager_skip ?_ ?_ ?_
             rotate_left 1
             · simp only [List.getElem?_toArray, List.getElem?_cons_zero, List.getElem?_cons_succ]; exact rfl
             · exact rfl
             simp only [Act.put, List.setIfInBounds_toArray, List.set_cons_zero, List.set_cons_succ])
          | (refine' eager_want ?_ ?_ (fun K hK => ?_)
             rotate_left 1
             · simp only [List.getElem?_toArray, List.getElem?_cons_zero, List.getElem?_cons_succ]; exact rfl
             · exact rfl
             first
             | (refine quiet_load_node _ rfl b (off + j * 9) cs1 rfl hl1 ?_; refine hK _ ?_; clear hK K; try simp only [Act.put, List.setIfInBounds_toArray, List.set_cons_zero, List.set_cons_succ])
             | (refine quiet_load_node _ rfl w.heap.size 2 [.int .i64 k, .int .u64 (word s 0), .int .u64 (word s 1), .int .u64 (word s 2), .int .u64 (word s 3), .int .i64 lo, .int .i64 hi, .int .i64 n, .slice (some ⟨b, off, none⟩) l.length cap] rfl hlR ?_; refine hK _ ?_; clear hK K; try simp only [Act.put, List.setIfInBounds_toArray, List.set_cons_zero, List.set_cons_succ])
             | (go_big_quiet_op; refine hK _ ?_; clear hK K)))
      refine' eager_call ?_ ?_ (fun K hK => ?_)
      rotate_left 1
      · simp only [List.getElem?_toArray, List.getElem?_cons_zero, List.getElem?_cons_succ]; exact rfl
      · exact rfl
      go_simp
      refine (hsR _ hcur).mono ?_
      rintro e wn ⟨sa2, sc2, rfl, _, hb, _⟩
      refine hK _ _ hb ?_
      replace hcur := hcur.trans (hb.mono hcur.size)
      clear hb hK K
      try simp only [Act.put, List.setIfInBounds_toArray, List.set_cons_zero, List.set_cons_succ]
      repeat (first
          | (refine' eager_skip ?_ ?_ ?_
             rotate_left 1
             · simp only [List.getElem?_toArray, List.getElem?_cons_zero, List.getElem?_cons_succ]; exact rfl
             · exact rfl
             simp only [Act.put, List.setIfInBounds_toArray, List.set_cons_zero, List.set_cons_succ])
          | (refine' eager_want ?_ ?_ (fun K hK => ?_)
             rotate_left 1
             · simp only [List.getElem?_toArray, List.getElem?_cons_zero, List.getElem?_cons_succ]; exact rfl
             · exact rfl
             first
             | (refine quiet_load_node _ rfl b (off + j * 9) cs1 rfl hl1 ?_; refine hK _ ?_; clear hK K; try simp only [Act.put, List.setIfInBounds_toArray, List.set_cons_zero, List.set_cons_succ])
             | (refine quiet_load_node _ rfl w.heap.size 2 [.int .i64 k, .int .u64 (word s 0), .int .u64 (word s 1), .int .u64 (word s 2), .int .u64 (word s 3), .int .i64 lo, .int .i64 hi, .int .i64 n, .slice (some ⟨b, off, none⟩) l.length cap] rfl hlR ?_; refine hK _ ?_; clear hK K; try simp only [Act.put, List.setIfInBounds_toArray, List.set_cons_zero, List.set_cons_succ])
             | (go_big_quiet_op; refine hK _ ?_; clear hK K)))
      refine eager_done ?_
      go_wp2_with fail
      go_roundw
      case rel => exact ⟨j + 1, congrArg (Value.int .i64) Hnext.out, by go_num, Nat.succ_le_of_lt hjn, HB5.out.trans (hcur.mono HB5.out.size)⟩
      case measure => simp [intOf]; omega
    · -- THE END
      obtain rfl : j = l.length := by omega
      have hdj : decide ((l.length : Int) < l.length) = false := by simp
      rw [show 1 + counts (l.take l.length) = C from by rw [List.take_length, Hcm.out]]
      have hkn : ((C : Int) == (C : Int)) = true := by simp
      have hcA := fun o => Hcell.out (wr.alloc o) (hB.alloc hB.size o)
      obtain ⟨wE, hwE⟩ : ∃ wE, wE = (wr.alloc (.cells #[.int .i64 k, .int .u64 (word s 0), .int .u64 (word s 1), .int .u64 (word s 2), .int .u64 (word s 3), .int .i64 lo, .int .i64 hi, .int .i64 n, .slice a l.length cap] 28)).alloc (.cells #[.bool false, .bool false, .int .i64 6, .int .u64 0, .int .u64 0, .int .u64 0, .int .u64 0, .int .i64 0, .int .i64 0, .int .i64 0, .slice (some ⟨wr.heap.size, 0, none⟩) 1 1, .int .i64 gr] 33) := ⟨_, rfl⟩
      have hsE : wE.heap.size = wr.heap.size + 2 := by rw [hwE]; simp
      have hbE : Below wr.heap.size wr wE := by rw [hwE]; exact two_below _ _ _
      have hrowE := (Below.heap_alloc (wr.alloc (.cells #[.int .i64 k, .int .u64 (word s 0), .int .u64 (word s 1), .int .u64 (word s 2), .int .u64 (word s 3), .int .i64 lo, .int .i64 hi, .int .i64 n, .slice a l.length cap] 28)) (.cells #[.bool false, .bool false, .int .i64 6, .int .u64 0, .int .u64 0, .int .u64 0, .int .u64 0, .int .i64 0, .int .i64 0, .int .i64 0, .slice (some ⟨wr.heap.size, 0, none⟩) 1 1, .int .i64 gr] 33) wr.heap.size (by simp)).trans (World.alloc_heap_new wr _)
      have hqE := World.alloc_heap_new (wr.alloc (.cells #[.int .i64 k, .int .u64 (word s 0), .int .u64 (word s 1), .int .u64 (word s 2), .int .u64 (word s 3), .int .i64 lo, .int .i64 hi, .int .i64 n, .slice a l.length cap] 28)) (.cells #[.bool false, .bool false, .int .i64 6, .int .u64 0, .int .u64 0, .int .u64 0, .int .u64 0, .int .i64 0, .int .i64 0, .int .i64 0, .slice (some ⟨wr.heap.size, 0, none⟩) 1 1, .int .i64 gr] 33)
      rw [← hwE] at hrowE hqE
      rw [World.size_alloc] at hqE
      have hB0 : ∀ Z : Later wE, Below w0.heap.size w0 Z.val := fun Z => hB.trans ((hbE.trans (Z.ok.mono hbE.size)).mono hB.size)
      have hrZ : ∀ Z : Later wE, Z.val.heap[wr.heap.size]? = some (.cells #[.int .i64 k, .int .u64 (word s 0), .int .u64 (word s 1), .int .u64 (word s 2), .int .u64 (word s 3), .int .i64 lo, .int .i64 hi, .int .i64 n, .slice a l.length cap] 28) := fun Z => block_below hrowE Z.ok (by omega)
      have hqZ : ∀ Z : Later wE, Z.val.heap[wr.heap.size + 1]? = some (.cells #[.bool false, .bool false, .int .i64 6, .int .u64 0, .int .u64 0, .int .u64 0, .int .u64 0, .int .i64 0, .int .i64 0, .int .i64 0, .slice (some ⟨wr.heap.size, 0, none⟩) 1 1, .int .i64 gr] 33) := fun Z => block_below hqE Z.ok (by omega)
      have hatQ : ∀ Z : Later wE, Nd.at Z.val (.mk 6 0 0 0 0 [.mk k s lo hi n l]) [.int .i64 6, .int .u64 0, .int .u64 0, .int .u64 0, .int .u64 0, .int .i64 0, .int .i64 0, .int .i64 0, .slice (some ⟨wr.heap.size, 0, none⟩) 1 1] := fun Z => at_bracket (HN.out _ (hB0 Z)) (by rw [Hcs.out]; rfl) (by rw [Hcs.out]; exact hrZ Z)
      have hG := fun Z : Later wE => good_walk false false gr (hatQ Z)
      rw [good_bracket _ _ HG.out] at hG
      rw [show patCells false false [.int .i64 6, .int .u64 0, .int .u64 0, .int .u64 0, .int .u64 0, .int .i64 0, .int .i64 0, .int .i64 0, .slice (some ⟨wr.heap.size, 0, none⟩) 1 1] gr = [.bool false, .bool false, .int .i64 6, .int .u64 0, .int .u64 0, .int .u64 0, .int .u64 0, .int .i64 0, .int .i64 0, .int .i64 0, .slice (some ⟨wr.heap.size, 0, none⟩) 1 1, .int .i64 gr] from rfl] at hG
      have hD := fun Z : Later wE => Depth_any (HN.out _ (hB0 Z))
      rw [HR2.out] at hD
      have hSm := fun Z : Later wE => same_any _ _ _ cs cs Z.val (Nat.le_refl _) (HN.out _ (hB0 Z)) (HN.out _ (hB0 Z))
      rw [Nd.same_refl] at hSm
      rw [Hcs.out] at hD hSm
      rw [← HC.out] at hG
      have hd64 : decide ((((Nd.mk k s lo hi n l).deep : Nat) : Int) < 64) = decide ((Nd.mk k s lo hi n l).deep < 64) := by rw [Bool.eq_iff_iff]; simp; omega
      have hc2k : decide ((C : Int) < 2000) = decide (C < 2000) := by rw [Bool.eq_iff_iff]; simp; omega
      generalize hdd : (Nd.mk k s lo hi n l).deep = dR at *
      clear hdd
      have hlQ : ∀ w', (∃ Z : Later wE, w' = Z.val) → Pat12 w' (wr.heap.size + 1) [.bool false, .bool false, .int .i64 6, .int .u64 0, .int .u64 0, .int .u64 0, .int .u64 0, .int .i64 0, .int .i64 0, .int .i64 0, .slice (some ⟨wr.heap.size, 0, none⟩) 1 1, .int .i64 gr] := fun w' hw' => by obtain ⟨Z, rfl⟩ := hw'; exact cells12 (hqZ Z) rfl
      have hlR : ∀ w', (∃ Z : Later wE, w' = Z.val) → Node9 w' w.heap.size 2 [.int .i64 k, .int .u64 (word s 0), .int .u64 (word s 1), .int .u64 (word s 2), .int .u64 (word s 3), .int .i64 lo, .int .i64 hi, .int .i64 n, .slice a l.length cap] := fun w' hw' => by obtain ⟨Z, rfl⟩ := hw'; exact cells9at2 (HP.out _ (hB0 Z)) _ rfl (root_cells _ _ _ _ _ _ _ _ _ _ _ _)
      generalize hbA : decide (dR < 64) = bA at hG hd64
      generalize hbB : decide (C < 2000) = bB at hG hc2k
      have HwE := Lib.hid hwE
      have HE := Lib.hid (hb0.trans ((hB.trans (hbE.mono hB.size)).mono hb0.size))
      clear hwE hsE hbE hrowE hqE hB0 hrZ hqZ hatQ hl
      go_wp2_with fail
      rw [← HwE.out]
      have hne := Later.nonempty wE
      cases bA <;> cases bB <;> (
        refine wp_region_later (W0 := wE) (Below.refl _ _) (by kernel_rfl) (by as_aux_lemma => kernel_rfl) ?_
        repeat (first
          | (go_big_quiet_want; refine quiet_load_pat _ rfl (wr.heap.size + 1) _ rfl hlQ ?_; go_big_quiet_on; simp only [Act.put, List.setIfInBounds_toArray, List.set_cons_zero, List.set_cons_succ])
          | (go_big_quiet_want; refine quiet_load_node _ rfl w.heap.size 2 _ rfl hlR ?_; go_big_quiet_on; simp only [Act.put, List.setIfInBounds_toArray, List.set_cons_zero, List.set_cons_succ])
          | (go_big_quiet_step (first | exact Later.calls (hG _) | exact Later.calls (hD _) | exact Later.calls (hSm _))))
        refine wpQuiet_nil ?_
        intro w' hw'
        obtain ⟨Z, rfl⟩ := hw'
        go_wp2_with fail
        go_ret
        exact ⟨rfl, HE.out.trans (Z.ok.mono HE.out.size)⟩)
end Go.Proofs.Ytlbaahpfcfpbfaa
