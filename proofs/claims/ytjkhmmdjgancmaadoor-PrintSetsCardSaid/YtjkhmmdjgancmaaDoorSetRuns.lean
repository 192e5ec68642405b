/- The walks of Runs and Cmp. -/
import Derived.Test.YtjkhmmdjgancmaaDoorSetBuild
import Derived.Deep.LoopGhost
namespace Go.Proofs.YtjkhmmdjgancmaaDoor
set_option maxRecDepth 100000
open Go.RowKit

/-- one byte more, behind the runs so far -/
def addRun (acc : List (Nat × Nat)) (b : Nat) : List (Nat × Nat) :=
  match acc.getLast? with
  | some r => if r.2 + 1 = b then acc.dropLast ++ [(r.1, b)] else acc ++ [(b, b)]
  | none => [(b, b)]
def runsOf (l : List Nat) : List (Nat × Nat) := l.foldl addRun []
theorem runsOf_snoc (l : List Nat) (b : Nat) : runsOf (l ++ [b]) = addRun (runsOf l) b := by simp [runsOf]
def runCells (acc : List (Nat × Nat)) : List Value := acc.flatMap fun r => [u8v r.1, u8v r.2]
theorem runCells_length (acc : List (Nat × Nat)) : (runCells acc).length = acc.length * 2 := by
  induction acc with
  | nil => rfl
  | cons r acc ih => simp [runCells] at ih ⊢; omega
theorem addRun_length (acc : List (Nat × Nat)) (b : Nat) : (addRun acc b).length ≤ acc.length + 1 := by
  unfold addRun
  split
  · split
    · simp
    · simp
  · simp
theorem runsOf_length (l : List Nat) : (runsOf l).length ≤ l.length := by
  have h : ∀ (l : List Nat) (acc : List (Nat × Nat)), (l.foldl addRun acc).length ≤ acc.length + l.length := by
    intro l
    induction l with
    | nil => intro acc; simp
    | cons b l ih => intro acc; rw [List.foldl_cons]; have := ih (addRun acc b); have := addRun_length acc b; simp; omega
  simpa [runsOf] using h l []
/-- the last run ends at the last byte -/
theorem runsOf_last (l : List Nat) (b : Nat) : ∃ pre lo, runsOf (l ++ [b]) = pre ++ [(lo, b)] := by
  rw [runsOf_snoc]
  unfold addRun
  split
  · split
    · exact ⟨_, _, rfl⟩
    · exact ⟨_, _, rfl⟩
  · exact ⟨[], _, rfl⟩
theorem info_run : (Tryd.prog.info? 93).map (fun i => (i.zero, i.size, i.bytes)) = some (some (.agg #[.int .u8 0, .int .u8 0]), 2, 2) := by kernel_rfl
/-- the call returns new runs -/
def RunRow (w : World) (l : List (Nat × Nat)) (e : Ending) (w' : World) : Prop :=
  ∃ v, e = .returned v ∧ w'.ownsRow w.heap.size 93 2 v l.length (runCells l) ∧ Below w.heap.size w w'
theorem owns_cells {w : World} {base : Nat} {e : TypeId} {a : Option Addr} {n cap : Nat} {l : List Nat} (h : w.ownsRow base e 1 (.slice a n cap) n (l.map u8v)) (j : Nat) (hj : j < l.length) :
    ∃ g, a = some ⟨g, 0, none⟩ ∧ base ≤ g ∧ g < w.heap.size ∧ w.cell? ⟨g, j, none⟩ = some (u8v (l.getD j 0)) := by
  have hlen := h.1
  have hrow := h.2
  simp at hlen
  rcases hrow with ⟨_, h0⟩ | ⟨g, c, cur, hv, hg, hblk, _⟩
  · omega
  · cases hv
    refine ⟨g, rfl, hg, lt_of_block hblk, ?_⟩
    rw [h.cellAt j (by omega), List.getElem?_map, List.getElem?_eq_getElem hj, List.getD_eq_getElem?_getD, List.getElem?_eq_getElem hj]
    rfl
theorem elems_lt (s : BitVec 256) : ∀ j k, j < k → k < (elems s).length → (elems s).getD j 0 < (elems s).getD k 0 := by
  have hp : (elems s).Pairwise (· < ·) := List.Pairwise.filter _ List.pairwise_lt_range
  intro j k hjk hk
  have := List.pairwise_iff_getElem.1 hp j k (by omega) hk hjk
  simpa [List.getD_eq_getElem?_getD, List.getElem?_eq_getElem hk, List.getElem?_eq_getElem (show j < (elems s).length by omega)] using this
theorem cells_two (w : World) (u v : Value) (t : TypeId) : ∀ (j : Nat) (x : Value), [u, v][j]? = some x → (w.alloc (.cells #[u, v] t)).cell? ((⟨w.heap.size, 0, none⟩ : Addr).add j) = some x := by
  intro j x hx
  match j with
  | 0 => simp at hx; subst hx; simp [Addr.add]
  | 1 => simp at hx; subst hx; simp [Addr.add]
  | j + 2 => simp at hx
theorem runCells_append (a b : List (Nat × Nat)) : runCells (a ++ b) = runCells a ++ runCells b := by simp [runCells]
/-- the last run of a row that the call owns: where its end lies -/
theorem owns_pair {w : World} {base : Nat} {e : TypeId} {a : Option Addr} {cap : Nat} {pre : List (Nat × Nat)} {lo hi : Nat} (h : w.ownsRow base e 2 (.slice a (pre.length + 1) cap) (pre.length + 1) (runCells (pre ++ [(lo, hi)]))) :
    ∃ g, a = some ⟨g, 0, none⟩ ∧ base ≤ g ∧ w.cell? ⟨g, pre.length * 2 + 1, none⟩ = some (.int .u8 (hi : Int)) ∧ w.frozen? ⟨g, pre.length * 2 + 1, none⟩ = false := by
  have hrow := h.2
  rcases hrow with ⟨_, h0⟩ | ⟨g, c, cur, hv, hg, hblk, _⟩
  · omega
  · cases hv
    refine ⟨g, rfl, hg, ?_, h.frozenAt _⟩
    rw [h.cellAt _ (by omega), runCells_append, List.getElem?_append_right (by rw [runCells_length]; omega), runCells_length]
    simp [runCells, u8v]
theorem addRun_adj (pre : List (Nat × Nat)) (lo h b : Nat) (e : h + 1 = b) : addRun (pre ++ [(lo, h)]) b = pre ++ [(lo, b)] := by
  simp [addRun, e]
theorem addRun_far (pre : List (Nat × Nat)) (lo h b : Nat) (e : ¬ h + 1 = b) : addRun (pre ++ [(lo, h)]) b = pre ++ [(lo, h)] ++ [(b, b)] := by
  simp [addRun, e]
theorem runCells_set (pre : List (Nat × Nat)) (lo b h : Nat) : (runCells (pre ++ [(lo, h)])).set (pre.length * 2 + 1) (u8v b) = runCells (pre ++ [(lo, b)]) := by
  rw [runCells_append, runCells_append, ← runCells_length pre, List.set_append_right _ _ (by omega)]
  congr 1
  simp [runCells]
set_option maxHeartbeats 1000000 in
theorem runs_any (s : BitVec 256) (w : World) (hT : TabAt 0 Lib.deBruijn64tab w) :
    Calls Tryd.prog 48 #[SV s] w (RunRow w (runsOf (elems s))) := by
  have hlen := elems_length_le s
  have hT1 := fun o => tab_alloc hT o
  obtain ⟨i0, hi, hz0, hz1, hz2⟩ := info_parts info_run
  go_enter Tryd.func48, Tryd.ntmps48
  go_wp2_with (go_at_call 22; refine (list_any s _ (hT1 _)).mono ?_; rintro e w1 ⟨v1, rfl, hown1, hb1⟩; obtain ⟨a1, c1, hv1⟩ := owns_form hown1; rw [hv1])
  have hsort : ∀ j k, j < k → k < (elems s).length → (elems s).getD j 0 < (elems s).getD k 0 := elems_lt s
  have hlt : ∀ x ∈ elems s, x < 256 := fun x hx => ((mem_elems s x).1 hx).1
  rw [hv1] at hown1
  have hst : w1.ownsRow w1.heap.size 93 2 (Value.slice none 0 0) 0 (runCells (runsOf ((elems s).take 0))) := World.ownsRow_nil _ _ _ _
  have hbW : Below w.heap.size w w1 := ((Below.refl _ _).alloc (Nat.le_refl _) _).trans (hb1.mono (by simp))
  clear hb1 hT hT1 hv1
  go_loopw [3, 10] (fun v i wr => ∃ k : Nat, k ≤ (elems s).length ∧ i = .int .i64 k ∧ wr.ownsRow w1.heap.size 93 2 v (runsOf ((elems s).take k)).length (runCells (runsOf ((elems s).take k))) ∧ Below w1.heap.size w1 wr) (fun _ i _ => (elems s).length - (intOf i).toNat)
  case atStart => exact ⟨0, by omega, rfl, hst, Below.refl _ _⟩
  case round =>
    obtain ⟨k, hk, rfl, hown, hb⟩ := hrel
    clear hst
    by_cases hkl : k < (elems s).length
    · obtain ⟨g, rfl, hg0, hg1, hcell⟩ := owns_cells hown1 k hkl
      have hd : decide (k < (elems s).length) = true := by simp; omega
      obtain ⟨b, hbv⟩ : ∃ b, b = (elems s).getD k 0 := ⟨_, rfl⟩
      have hb256 : b < 256 := by rw [hbv, List.getD_eq_getElem?_getD, List.getElem?_eq_getElem hkl]; exact hlt _ (List.getElem_mem _)
      have hcellb : wr.cell? ⟨g, k, none⟩ = some (.int .u8 (b : Int)) := by rw [hb.cell (p := ⟨g, k, none⟩) hg1, hcell, ← hbv]; rfl
      have hnext : (elems s).take (k + 1) = (elems s).take k ++ [b] := by rw [List.take_succ_eq_append_getElem hkl, hbv, List.getD_eq_getElem?_getD, List.getElem?_eq_getElem hkl]; rfl
      have hruns : runsOf ((elems s).take (k + 1)) = addRun (runsOf ((elems s).take k)) b := by rw [hnext, runsOf_snoc]
      clear hcell hnext
      by_cases hk0 : k = 0
      · subst hk0
        have hr0 : runsOf ((elems s).take 0) = [] := rfl
        rw [hr0] at hown hruns
        have hown' : wr.ownsRow w1.heap.size 93 2 _ 0 [] := hown
        obtain ⟨a3, c3, rfl⟩ := owns_form hown'
        clear hown hsort hbv
        go_wp2_with (at_builtin; refine wpList_append_own _ rfl _ _ 90 rfl w1.heap.size 93 i0 (.agg #[.int .u8 0, .int .u8 0]) 2 2 Tryd.underlying90 hi hz0 hz1 hz2 rfl (by decide) _ _ _ rfl (hown'.alloc _) ⟨wr.heap.size, 0, none⟩ 1 1 [u8v b, u8v b] rfl rfl ?c1 ?c2 ?c3 ?c4 ?c5 ?_)
        case c1 => exact cells_two _ _ _ _
        case c2 => intro u hu; simp at hu; subst hu; rfl
        case c3 => unfold maxLen; omega
        case c4 => omega
        case c5 => have := hb.size; simp; omega
        intro v' w' hown2 hgrow _
        have hfin : w'.ownsRow w1.heap.size 93 2 v' (runsOf ((elems s).take 1)).length (runCells (runsOf ((elems s).take 1))) := by rw [hruns]; exact hown2
        have hb' := (hb.alloc hb.size _).grown hgrow (by have := hb.size; simp; omega) (fun k hk => (hown'.lt k hk).1)
        clear hown2 hgrow hb hown' hruns
        go_wp2
        go_roundw
        case rel => exact ⟨1, by omega, rfl, hfin, hb'⟩
        case measure => simp [intOf]; omega
      · obtain ⟨k', rfl⟩ : ∃ k', k = k' + 1 := ⟨k - 1, by omega⟩
        obtain ⟨h, hhv⟩ : ∃ h, h = (elems s).getD k' 0 := ⟨_, rfl⟩
        have hhb : h < b := by rw [hhv, hbv]; exact hsort k' (k' + 1) (by omega) hkl
        have hlast : (elems s).take (k' + 1) = (elems s).take k' ++ [h] := by rw [List.take_succ_eq_append_getElem (by omega), hhv, List.getD_eq_getElem?_getD, List.getElem?_eq_getElem (by omega)]; rfl
        obtain ⟨pre, lo, hpre⟩ := runsOf_last ((elems s).take k') h
        rw [← hlast] at hpre
        rw [hpre] at hown hruns
        have hlen2 : pre.length + 1 ≤ k' + 1 := by
          have := runsOf_length ((elems s).take (k' + 1))
          rw [hpre] at this
          simp at this
          omega
        rw [List.length_append, List.length_singleton] at hown
        obtain ⟨a3, c3, rfl⟩ := owns_form hown
        obtain ⟨g3, rfl, hg3, hc3, hf3⟩ := owns_pair hown
        clear hsort hhv hbv hlast
        have hpos : decide ((pre.length : Int) + 1 > 0) = true := by simp
        by_cases hadj : h + 1 = b
        · have heq : ((h : Int) + 1 == (b : Int)) = true := by rw [beq_iff_eq]; omega
          have hst := (hown.stored (pre.length * 2 + 1) (u8v b)).1
          have hfin : (wr.setCell ⟨g3, pre.length * 2 + 1, none⟩ (u8v b)).ownsRow w1.heap.size 93 2 (Value.slice (some ⟨g3, 0, none⟩) (pre.length + 1) c3) (runsOf ((elems s).take (k' + 1 + 1))).length (runCells (runsOf ((elems s).take (k' + 1 + 1)))) := by
            rw [hruns, addRun_adj _ _ _ _ hadj, ← runCells_set _ _ _ h, List.length_append]
            exact hst
          have hb' := hb.setCell (p := ⟨g3, pre.length * 2 + 1, none⟩) hg3 (u8v b)
          clear hst hown hruns hpre
          go_wp2
          go_roundw
          case rel => exact ⟨k' + 1 + 1, by omega, by go_num, hfin, hb'⟩
          case measure => simp [intOf]; omega
        · have heq : ((h : Int) + 1 == (b : Int)) = false := by rw [beq_eq_false_iff_ne]; omega
          rw [addRun_far _ _ _ _ hadj] at hruns
          go_wp2_with (at_builtin; refine wpList_append_own _ rfl _ _ 90 rfl w1.heap.size 93 i0 (.agg #[.int .u8 0, .int .u8 0]) 2 2 Tryd.underlying90 hi hz0 hz1 hz2 rfl (by decide) _ _ _ rfl (hown.alloc _) ⟨wr.heap.size, 0, none⟩ 1 1 [u8v b, u8v b] rfl rfl ?c1 ?c2 ?c3 ?c4 ?c5 ?_)
          case c1 => exact cells_two _ _ _ _
          case c2 => intro u hu; simp at hu; subst hu; rfl
          case c3 => unfold maxLen; omega
          case c4 => omega
          case c5 => have := hb.size; simp; omega
          intro v' w' hown2 hgrow _
          have hfin : w'.ownsRow w1.heap.size 93 2 v' (runsOf ((elems s).take (k' + 1 + 1))).length (runCells (runsOf ((elems s).take (k' + 1 + 1)))) := by
            rw [hruns, List.length_append, List.length_append, runCells_append]; exact hown2
          have hb' := (hb.alloc hb.size _).grown hgrow (by have := hb.size; simp; omega) (fun k hk => (hown.lt k hk).1)
          clear hown2 hgrow hb hown hruns hpre
          go_wp2
          go_roundw
          case rel => exact ⟨k' + 1 + 1, by omega, by go_num, hfin, hb'⟩
          case measure => simp [intOf]; omega
    · have hd : decide (k < (elems s).length) = false := by simp; omega
      have ht : (elems s).take k = elems s := List.take_of_length_le (by omega)
      rw [ht] at hown
      have hfin : RunRow w (runsOf (elems s)) (.returned u3) wr := ⟨_, rfl, owns_mono hown hbW.size, hbW.trans (hb.mono hbW.size)⟩
      clear hown ht hsort
      go_wp2
      go_ret
      exact hfin
end Go.Proofs.YtjkhmmdjgancmaaDoor
