/- tree.Sets, walked. -/
import Derived.Test.YtaanhijjhllckaaTreeKeys
import Derived.RangeFuncBox
namespace Go.Proofs.Ytaanhijjhllckaa
set_option maxRecDepth 100000
open Go.RowKit Go.Shelf

attribute [local go_sem] Oper.semAt_some

/-- what Sets holds between two rounds -/
def SetsF (n₀ : Nat) (w0 : World) (bS mb bM : Nat) (v : Value) (acc : List (BitVec 256)) (D : DataW Unit) (W : World) : Prop :=
  Boxed W bS 41 v ∧ W.ownsRow n₀ 24 4 v acc.length (setCells acc) ∧ Boxed W bM 56 (.map (some mb)) ∧ W.ownsMap Try.prog 24 unitElem mb acc.length D ∧ Below n₀ w0 W
def SetsD (acc : List (BitVec 256)) (D : DataW Unit) : Prop := Maps.IsMap D ∧ ∀ s, Maps.has D (keyS s) = decide (s ∈ acc)
theorem SetsF.kept {n₀ : Nat} {w0 : World} {bS mb bM : Nat} {v : Value} {acc : List (BitVec 256)} {D : DataW Unit} {W W' : World} {row : Option Nat} (h : SetsF n₀ w0 bS mb bM v acc D W) (hg : W.grownBy W' row)
    (h1 : some bS ≠ row) (h2 : some bM ≠ row) (h3 : some mb ≠ row) (h4 : v.ownBlock = none ∨ v.ownBlock ≠ row) (h5 : ∀ k, row = some k → n₀ ≤ k) (hn : n₀ ≤ W.heap.size) : SetsF n₀ w0 bS mb bM v acc D W' :=
  ⟨h.1.kept hg h1, h.2.1.kept hg h4, h.2.2.1.kept hg h2, h.2.2.2.1.kept hg h3, h.2.2.2.2.grown hg hn h5⟩
theorem row_cells {W : World} {base : Nat} {e : TypeId} {size : Nat} {v : Value} {k : Nat} {xs : List Value} (h : W.ownsRow base e size v k xs) {l : Nat} (hl : ∃ o : Obj, W.heap[l]? = some o ∧ o.isCells = false) : v.ownBlock = none ∨ v.ownBlock ≠ some l := by
  rcases h.2 with ⟨rfl, _⟩ | ⟨g, cap, cur, rfl, _, hgb, _⟩
  · exact .inl rfl
  · refine .inr fun e' => ?_
    obtain rfl : g = l := by simpa [Value.ownBlock] using e'
    obtain ⟨o, ho, hc⟩ := hl
    rw [hgb] at ho; cases ho; cases hc
theorem SetsF.ownF {n₀ B : Nat} {w0 : World} {bS mb bM : Nat} {v : Value} {acc : List (BitVec 256)} {D : DataW Unit} (h1 : bS < B) (h2 : bM < B) (h3 : mb < B) (hn : n₀ ≤ B) (hw : n₀ ≤ w0.heap.size) : OwnFrom B (fun (_ : Unit) W => SetsF n₀ w0 bS mb bM v acc D W) := by
  intro q W W' row h hg hr
  refine h.kept hg (fun e => ?_) (fun e => ?_) (fun e => ?_) ?_ (fun k e => Nat.le_trans hn (hr k e).1) (Nat.le_trans hw h.2.2.2.2.size)
  · have := (hr _ e.symm).1; omega
  · have := (hr _ e.symm).1; omega
  · have := (hr _ e.symm).1; omega
  · cases row with
    | none =>
      rcases h.2.1.2 with ⟨e, _⟩ | ⟨g, cap, cur, e, _⟩
      · exact .inl (by rw [e]; rfl)
      · rw [e]; exact .inr (by simp [Value.ownBlock])
    | some l => exact row_cells h.2.1 (hr l rfl).2
theorem SetsF.alloc {n₀ : Nat} {w0 : World} {bS mb bM : Nat} {v : Value} {acc : List (BitVec 256)} {D : DataW Unit} {W : World} (h : SetsF n₀ w0 bS mb bM v acc D W) (hn : n₀ ≤ W.heap.size) (o : Obj) : SetsF n₀ w0 bS mb bM v acc D (W.alloc o) :=
  h.kept (World.grownBy_alloc W o none) (by simp) (by simp) (by simp) (Decidable.em _) (fun k e => by cases e) hn
theorem block_kept {W W' : World} {row : Option Nat} {b : Nat} {o : Obj} (h : W.heap[b]? = some o) (hg : W.grownBy W' row) (hne : some b ≠ row) : W'.heap[b]? = some o := (hg.block b (Array.getElem?_eq_some_iff.1 h).1 hne).trans h
theorem map_block {W : World} {P : Program} {k : TypeId} {R : Value → Option (DataW Unit × List MemPlace)} {b n : Nat} {D : DataW Unit} (h : W.ownsMap P k R b n D) : ∃ o : Obj, W.heap[b]? = some o ∧ o.isCells = false := by
  obtain ⟨es, ck, hh, _⟩ := h
  exact ⟨_, hh, rfl⟩
def SetsI (w w0 : World) (pre : List (NV w)) (W : World) : Prop :=
  ∃ v D, SetsF w.heap.size w0 (w.heap.size + 1) (w.heap.size + 1 + 1) (w.heap.size + 1 + 1 + 1) v (accN (nds pre) []) D W ∧ SetsD (accN (nds pre) []) D
theorem SetsI.own {w w0 : World} (h : w.heap.size + 1 + 1 + 1 < w0.heap.size) : OwnFrom w0.heap.size (SetsI w w0) := by
  rintro q W W' row ⟨v, D, hF, hD⟩ hg hr
  exact ⟨v, D, SetsF.ownF (by omega) (by omega) (by omega) (by omega) (by omega) () W W' row hF hg hr, hD⟩
theorem zero_unit (w : World) : (zeroValue 60).run Try.prog w = .ok (.agg #[]) w := by kernel_rfl
theorem SetsD.same {acc : List (BitVec 256)} {D : DataW Unit} (h : SetsD acc D) {s : BitVec 256} (hs : s ∈ acc) : SetsD (addSet acc s) D := by
  unfold addSet; rw [if_pos hs]; exact h
theorem SetsD.more {acc : List (BitVec 256)} {D : DataW Unit} (h : SetsD acc D) {s : BitVec 256} (hs : s ∉ acc) (d : DataW Unit) : SetsD (addSet acc s) (D.put (keyS s) d) := by
  unfold addSet; rw [if_neg hs]
  refine ⟨h.1.put _ _, fun t => ?_⟩
  by_cases ht : t = s
  · subst ht
    rw [Maps.has_put_same h.1 (keyS_lit t)]; simp
  · rw [Maps.has_put_other (fun e => ht (keyS_inj e)), h.2 t]
    simp [ht]
set_option maxRecDepth 100000 in
set_option maxHeartbeats 4000000 in
theorem sets_walk {x : Nd} {cs : List Value} {w : World} (hat : Nd.at w x cs) :
    Calls Try.prog 8 #[.agg cs.toArray] w (SetsRow w (accN (x.pre.take 100000) [])) := by
  have hmm := @run_makeMap Try.prog
  obtain ⟨A, hA⟩ : ∃ A, A = accN (x.pre.take 100000) [] := ⟨_, rfl⟩
  rw [← hA]
  have HA := Lib.hid hA
  clear hA
  have hat0 := hat
  obtain ⟨s, lo, hi, n, a, cap, _, hcs⟩ := at_cells hat
  generalize x.kind = k at hcs
  generalize x.nodes.length = len at hcs
  have hno := fun w' => (callsIn_wide (n := 2)).2 (nodes_walk hat w')
  obtain ⟨w0, hw0⟩ : ∃ w0, w0 = ((((w.alloc (.cells cs.toArray 27)).alloc (.cells #[.slice none 0 0] 41)).alloc (.map #[] 0)).alloc (.cells #[.map (some (w.heap.size + 1 + 1))] 56)).alloc (.cells cs.toArray 27) := ⟨_, rfl⟩
  refine (callsIn_wide (n := 3)).1 ?_
  refine callsIn_of_wp_marks Try.func8 rfl trivial ?_ rfl
  rw [hcs] at hno hw0 ⊢
  have Hat := Lib.hid hat
  have Hw0 := Lib.hid hw0
  have Hcs := Lib.hid hcs
  clear hat hat0 hw0 hcs
  simp only [Try.ntmps8, List.size_toArray, List.length_cons, List.length_nil, Nat.reduceAdd, Nat.reduceSub, Array.replicate_succ, Array.replicate_zero, List.push_toArray, List.append_toArray, List.nil_append, List.cons_append]
  gi_wp2_with (refine ⟨trivial, ?_⟩; gi_at_call 21; refine (hno _).mono ?_; clear hno; rintro e w' ⟨rfl, rfl⟩)
  rw [← Hw0.out]
  have hcell9 : cs.length = 9 := by rw [Hcs.out]; rfl
  have hs0 : w0.heap.size = w.heap.size + 5 := by rw [Hw0.out]; simp
  have hfacts : Below w.heap.size w w0 ∧ Node9 w0 (w.heap.size + 1 + 1 + 1 + 1) 0 cs ∧ Boxed w0 (w.heap.size + 1) 41 (.slice none 0 0) ∧ Boxed w0 (w.heap.size + 1 + 1 + 1) 56 (.map (some (w.heap.size + 1 + 1))) ∧ w0.ownsMap Try.prog 24 (unitElem (H := Unit)) (w.heap.size + 1 + 1) 0 (.map []) := by
    have e := Hw0.out
    generalize hWA : w.alloc (.cells _ 27) = WA at e
    have sA : WA.heap.size = w.heap.size + 1 := by rw [← hWA]; simp
    have bA : Below w.heap.size w WA := by rw [← hWA]; exact (Below.refl _ _).alloc (Nat.le_refl _) _
    generalize hWB : WA.alloc (.cells #[.slice none 0 0] 41) = WB at e
    have sB : WB.heap.size = w.heap.size + 1 + 1 := by rw [← hWB, World.size_alloc, sA]
    have bB : Below w.heap.size w WB := by rw [← hWB]; exact bA.alloc (by omega) _
    have vB : Boxed WB (w.heap.size + 1) 41 (.slice none 0 0) := by rw [← hWB, ← sA]; exact Boxed.new _ _ _
    generalize hWC : WB.alloc (.map #[] 0) = WC at e
    have sC : WC.heap.size = w.heap.size + 1 + 1 + 1 := by rw [← hWC, World.size_alloc, sB]
    have bC : Below w.heap.size w WC := by rw [← hWC]; exact bB.alloc (by omega) _
    have vC : Boxed WC (w.heap.size + 1) 41 (.slice none 0 0) := by rw [← hWC]; exact vB.alloc _
    have mC : WC.ownsMap Try.prog 24 (unitElem (H := Unit)) (w.heap.size + 1 + 1) 0 (.map []) := by rw [← hWC, ← sB]; exact World.ownsMap_made _ _ _ _
    generalize hWD : WC.alloc (.cells #[.map (some (w.heap.size + 1 + 1))] 56) = WD at e
    have sD : WD.heap.size = w.heap.size + 1 + 1 + 1 + 1 := by rw [← hWD, World.size_alloc, sC]
    have bD : Below w.heap.size w WD := by rw [← hWD]; exact bC.alloc (by omega) _
    have vD : Boxed WD (w.heap.size + 1) 41 (.slice none 0 0) := by rw [← hWD]; exact vC.alloc _
    have uD : Boxed WD (w.heap.size + 1 + 1 + 1) 56 (.map (some (w.heap.size + 1 + 1))) := by rw [← hWD, ← sC]; exact Boxed.new _ _ _
    have mD : WD.ownsMap Try.prog 24 (unitElem (H := Unit)) (w.heap.size + 1 + 1) 0 (.map []) := by rw [← hWD]; exact mC.alloc _
    rw [← Hcs.out] at e
    refine ⟨by rw [e]; exact bD.alloc (by omega) _, ?_, by rw [e]; exact vD.alloc _, by rw [e]; exact uD.alloc _, by rw [e]; exact mD.alloc _⟩
    have h := World.alloc_heap_new WD (.cells cs.toArray 27)
    rw [← e, sD] at h
    refine ⟨hcell9, fun q hq => ?_⟩
    simp [World.cell?, h]
  obtain ⟨hb0, h9, hvS, hvM, hmap0⟩ := hfacts
  have hheld := nodes_held Hat.out hb0 (Bx := w.heap.size + 1 + 1 + 1 + 1) (by omega) h9
  clear h9 hcell9
  have hw3 : w.heap.size + 1 + 1 + 1 < w0.heap.size := by omega
  refine wp_range_held (w := w0) rfl (enters_of Try.func28 (by kernel_rfl) rfl) hheld hb0.size (Below.refl _ _)
    (SetsI w w0) (fun _ _ _ => False) (SetsI.own hw3) (fun _ _ _ _ _ h _ _ => h)
    (fun _ _ h => by obtain ⟨v, D, hF, _⟩ := h; exact hF.2.2.2.2) (fun _ _ _ h => h.elim)
    ⟨.slice none 0 0, .map [], ⟨hvS, World.ownsRow_nil _ _ _ _, hvM, hmap0, Below.refl _ _⟩, Maps.isMap_empty, fun _ => rfl⟩ ?turn ?done ?stop
  case turn =>
    intro l m pre y W o K hI ho hlen hlt hK
    obtain ⟨⟨nd, ds⟩, hnd⟩ := y
    obtain ⟨k1, s1, lo1, hi1, n1, ls⟩ := nd
    have hnd2 := hnd
    rw [at_mk] at hnd
    obtain ⟨_, _, _, _, a1, cap1, hds, _, _⟩ := hnd
    simp only at hds
    subst hds
    obtain ⟨v, D, hF, hD⟩ := hI
    have hacc : ∀ y : NV w, y.1.1 = Nd.mk k1 s1 lo1 hi1 n1 ls → accN (nds (pre ++ [y])) [] = if k1 = 1 then addSet (accN (nds pre) []) s1 else accN (nds pre) [] := fun y hy => by
      rw [nds_append, show nds [y] = [Nd.mk k1 s1 lo1 hi1 n1 ls] from by rw [← hy]; rfl, accN_append]; rfl
    have hal : (accN (nds pre) []).length ≤ 100000 := by
      have h := accN_length (nds pre) []
      simp only [nds, List.length_map, List.length_nil] at h ⊢
      omega
    generalize accN (nds pre) [] = acc at *
    have hsW : w.heap.size + 5 < W.heap.size := by omega
    have Hacc := Lib.hid hacc
    have HF := Lib.hid hF
    have HD := Lib.hid hD
    have Hlt := Lib.hid hlt
    clear hnd2 hheld hvS hvM hmap0 hF hD hlt hacc
    gi_wp2
    refine hK _ _ ((KeepsOthers.alloc _ _).from _) fun W3 hto hs3 => ?_
    have hrowlt : ∀ g, v.ownBlock = some g → g < W.heap.size := fun g hg => by
      rcases HF.out.2.1.2 with ⟨e, _⟩ | ⟨g', cap', cur, e, _, hgb, _⟩
      · rw [e] at hg; cases hg
      · rw [e] at hg; simp [Value.ownBlock] at hg; subst hg; exact (Array.getElem?_eq_some_iff.1 hgb).1
    have hS3all := hto _ (SetsF.ownF (by omega) (by omega) (by omega) (by omega) hb0.size) ((HF.out.alloc (by omega) o).alloc (by simp; omega) (.cells #[.int .i64 k1, .int .u64 (word s1 0), .int .u64 (word s1 1), .int .u64 (word s1 2), .int .u64 (word s1 3), .int .i64 lo1, .int .i64 hi1, .int .i64 n1, .slice a1 ls.length cap1] 27))
    have ho3 := hto _ (ownFrom_block _ _ _ ho) ((Below.heap_alloc (W.alloc o) (.cells #[.int .i64 k1, .int .u64 (word s1 0), .int .u64 (word s1 1), .int .u64 (word s1 2), .int .u64 (word s1 3), .int .i64 lo1, .int .i64 hi1, .int .i64 n1, .slice a1 ls.length cap1] 27) _ (by simp)).trans (World.alloc_heap_new W o))
    have hX3 := hto _ (ownFrom_block _ _ _ rfl) (World.alloc_heap_new (W.alloc o) (.cells #[.int .i64 k1, .int .u64 (word s1 0), .int .u64 (word s1 1), .int .u64 (word s1 2), .int .u64 (word s1 3), .int .i64 lo1, .int .i64 hi1, .int .i64 n1, .slice a1 ls.length cap1] 27))
    rw [World.size_alloc] at hX3
    have hs3' : W3.heap.size = W.heap.size + 2 := by rw [hs3]; simp
    have hcX := cells_at hX3
    have HS3 := Lib.hid hS3all
    have Ho3 := Lib.hid ho3
    have HX3 := Lib.hid hX3
    clear hto hs3 hK hS3all ho3 hX3
    by_cases hk1 : k1 = 1
    rotate_left 1
    · have e1 : (k1 != 1) = true := by simp [bne, hk1]
      have e2 : (k1 == 1) = false := by simp [hk1]
      have Hk1 := Lib.hid hk1
      clear hk1 hmm
      gi_wp2
      refine ⟨⟨KeepsFrom.refl _ _, Ho3.out⟩, v, D, ?_⟩
      rw [Hacc.out _ rfl, if_neg Hk1.out]
      exact ⟨HS3.out, HD.out⟩
    · subst hk1
      have hhas := HD.out.2 s1
      by_cases hin : s1 ∈ acc
      · rw [decide_eq_true hin] at hhas
        have Hin := Lib.hid hin
        have hmap3 := HS3.out.2.2.2.1
        have hcM := HS3.out.2.2.1.cell
        clear hin hmm
        gi_wp2_with (gi_at_lookup; refine wpListIn_lookup_own_unit _ rfl _ _ 56 rfl 24 60 set_keyed Try.underlying56 (zero_unit _) (w.heap.size + 1 + 1) acc.length D rfl hmap3 _ (keyS s1) rfl (keyS_of s1) ?_)
        refine ⟨⟨(KeepsOthers.alloc _ _).from _, (Below.heap_alloc W3 _ _ (by omega)).trans Ho3.out⟩, v, D, ?_⟩
        rw [Hacc.out _ rfl, if_pos trivial]
        have hsame := HD.out.same Hin.out
        have hacc1 : addSet acc s1 = acc := by unfold addSet; rw [if_pos Hin.out]
        rw [hacc1] at hsame ⊢
        exact ⟨HS3.out.alloc (by omega) _, hsame⟩
      · rw [decide_eq_false hin] at hhas
        have Hin := Lib.hid hin
        have hmap3 := HS3.out.2.2.2.1
        have hS3 := HS3.out.1
        have hrow3 := HS3.out.2.1
        have hM3 := HS3.out.2.2.1
        have hcM := HS3.out.2.2.1.cell
        have hX3 := HX3.out
        have ho3 := Ho3.out
        have hmapZ := fun Z => hmap3.alloc (o := Z)
        have hcMZ := fun Z => (hM3.alloc Z).cell
        have hcXZ := fun Z => cells_at ((Below.heap_alloc W3 Z _ (by omega)).trans hX3)
        have hneX : some (W.heap.size + 1) ≠ some (w.heap.size + 1 + 1) := by simp; omega
        have hneo : some W.heap.size ≠ some (w.heap.size + 1 + 1) := by simp; omega
        have hneS : some (w.heap.size + 1) ≠ some (w.heap.size + 1 + 1) := by simp
        have hneM : some (w.heap.size + 1 + 1 + 1) ≠ some (w.heap.size + 1 + 1) := by simp
        have hrowne := row_cells hrow3 (map_block hmap3)
        have hacm : acc.length < maxLen := by unfold maxLen; omega
        obtain ⟨i0, hi0, hz0, hz1, hz2⟩ := info_parts info_set
        have HX3 := Lib.hid hX3
        have HO3 := Lib.hid ho3
        have HS := Lib.hid hS3
        have HM := Lib.hid hM3
        have Hrow := Lib.hid hrow3
        have HmapZ := Lib.hid hmapZ
        clear hin hmm hX3 ho3 hS3 hM3 hrow3 hmapZ
        gi_wp2_with (first
          | (gi_at_lookup; refine wpListIn_lookup_own_unit _ rfl _ _ 56 rfl 24 60 set_keyed Try.underlying56 (zero_unit _) (w.heap.size + 1 + 1) acc.length D rfl hmap3 _ (keyS s1) rfl (keyS_of s1) ?_)
          | (gi_at_mapUpdate; refine wpListIn_mapUpdate_own _ rfl _ _ _ 56 rfl 24 60 set_keyed Try.underlying56 unitElem (w.heap.size + 1 + 1) acc.length D rfl (HmapZ.out _) hacm _ _ (keyS s1) rfl rfl (keyS_of s1) _ [] unitElem_mk ?_; intro w1 hown1 hgrow1; have hX1 := block_kept ((Below.heap_alloc W3 _ _ (by omega)).trans HX3.out) hgrow1 hneX; have ho1 := block_kept ((Below.heap_alloc W3 _ _ (by omega)).trans HO3.out) hgrow1 hneo; have hS1 := (HS.out.alloc _).kept hgrow1 hneS; have hM1 := (HM.out.alloc _).kept hgrow1 hneM; have hrow1 := (Hrow.out.alloc _).kept hgrow1 hrowne; have hcX1 := cells_at hX1; have hcS1 := hS1.cell; have Hown1 := Lib.hid hown1; have Hgrow1 := Lib.hid hgrow1; have HX1 := Lib.hid hX1; have Ho1 := Lib.hid ho1; have HM1 := Lib.hid hM1; clear hown1 hgrow1 hX1 ho1 hM1)
          | (gi_at_builtin; refine wpListIn_append_own _ rfl _ _ 41 rfl w.heap.size 24 i0 (.agg #[.int .u64 0, .int .u64 0, .int .u64 0, .int .u64 0]) 4 32 Try.underlying41 hi0 hz0 hz1 hz2 rfl (by decide) v acc.length (setCells acc) rfl (hrow1.alloc _) ⟨w1.heap.size, 0, none⟩ 1 1 (setCells [s1]) rfl rfl (sets_four _ _ _ _ _ _) (setCells_one_cell _) (by unfold maxLen; omega) (by omega) (by have := Hgrow1.out.size; simp at this ⊢; omega) ?_; intro v' w2 hown2 hgrow2 _; obtain ⟨g', cap', rfl⟩ := ownsRow_succ hown2; obtain ⟨hv1, hv2, hr2, hk2, hb2⟩ := hS1.appended (by decide) hrow1 (by have := Hgrow1.out.size; simp at this; omega) (Nat.le_succ _) hown2 hgrow2; have hc1 := hv1.cell; have hf1 := hv1.frozen; have Hgrow2 := Lib.hid hgrow2; have Hv2 := Lib.hid hv2; have Hr2 := Lib.hid hr2; have Hk2 := Lib.hid hk2; have Hb2 := Lib.hid hb2; clear hgrow2 hv2 hr2 hk2 hb2))
        have hneB : some W.heap.size ≠ v.ownBlock := fun e => by have := hrowlt _ e.symm; omega
        have hneM2 : some (w.heap.size + 1 + 1) ≠ v.ownBlock := fun e => hrowne.elim (fun h => by rw [h] at e; cases e) (fun h => h e.symm)
        refine ⟨⟨((KeepsOthers.alloc W3 _).from _).trans ((KeepsFrom.of_grownBy Hgrow1.out (fun j e => by cases e; omega)).trans (Hk2.out.from _)), ?_⟩, .slice (some ⟨g', 0, none⟩) (acc.length + 1) cap', D.put (keyS s1) (.agg []), ?_⟩
        · exact (Below.heap_setCell _ _ _ _ (show W.heap.size ≠ w.heap.size + 1 from by omega)).trans (block_kept ((Below.heap_alloc w1 _ _ (block_lt Ho1.out)).trans Ho1.out) Hgrow2.out hneB)
        rw [Hacc.out _ rfl, if_pos trivial]
        have hmore := HD.out.more Hin.out (.agg [])
        have hadd : addSet acc s1 = acc ++ [s1] := by unfold addSet; rw [if_neg Hin.out]
        rw [hadd] at hmore ⊢
        refine ⟨⟨Hv2.out, ?_, ?_, ?_, ?_⟩, hmore⟩
        · rw [List.length_append, setCells_append]; exact Hr2.out
        · exact ((HM1.out.alloc _).kept Hgrow2.out (HM1.out.not_row (by decide) hrow1)).kept (grownBy_setCell' _ _ _) (by intro e; injection e with e; omega)
        · rw [List.length_append]
          exact ((Hown1.out.alloc _).kept Hgrow2.out hneM2).kept (grownBy_setCell' _ _ _) (by intro e; injection e with e; omega)
        · have hsz : w.heap.size ≤ W3.heap.size := by omega
          exact ((HS3.out.2.2.2.2.alloc hsz _).grown Hgrow1.out (by simp; omega) (fun k e => by cases e; omega)).trans Hb2.out
  case done =>
    rintro E ys W hE hS ⟨v, D, hF, hD⟩ hk
    have hA : accN (nds ys) [] = A := by rw [HA.out, show nds ys = x.pre.take 100000 from hS]
    rw [hA] at hF
    have hrow := hF.2.1
    obtain ⟨a', cap', rfl⟩ : ∃ a' cap', v = .slice a' A.length cap' := by
      rcases hrow.2 with ⟨rfl, h0⟩ | ⟨g, cap', cur, rfl, _⟩
      · exact ⟨none, 0, by rw [h0]⟩
      · exact ⟨_, _, rfl⟩
    have hcS := hF.1.cell
    have HF := Lib.hid hF
    have Hrow := Lib.hid hrow
    clear hF hD hA hS hrow hmm hheld hvS hvM hmap0
    gi_wp2
    refine ⟨by simp, .inl ⟨_, _, rfl, run_takeDeferred hk, ?_⟩⟩
    obtain ⟨hat2, hfresh⟩ := setsAt_of_owns (ownsRow_putObj Hrow.out (.deferred none) hk rfl)
    refine ⟨_, results_tmp rfl _ _ _, a', cap', rfl, hat2, (hb0.trans HF.out.2.2.2.2).trans (belowK_b (w := w) (Nat.le_refl _) W E _ _ (by omega) hk rfl rfl), hfresh⟩
  case stop =>
    rintro E c ys W hE hS h hk
    exact h.elim
end Go.Proofs.Ytaanhijjhllckaa
