/- The walk of the document's own Blocks. -/
import Derived.Test.YtnhlopbpggdneaaDoorRefMem
import Derived.Test.YtnhlopbpggdneaaDoorRefList
import Derived.Test.YtnhlopbpggdneaaDoorBlockFacts
import Derived.Test.YtnhlopbpggdneaaDoorLater
import Derived.Deep.LoopGhost
namespace Go.Proofs.YtnhlopbpggdneaaDoor
open Go.RowKit

/-- what is gathered of h's part when the bytes below k have been seen -/
def stageF (L : List (BitVec 256)) (k h : Nat) : Nat → Bool := fun c => decide (c < k) && same L h c
def stage (L : List (BitVec 256)) (k : Nat) : List (Nat → Bool) := (headsTo L k).map (stageF L k)
theorem stage_length (L : List (BitVec 256)) (k : Nat) : (stage L k).length = (headsTo L k).length := by rw [stage, List.length_map]
theorem stage_at (L : List (BitVec 256)) (k j : Nat) (hj : j < (headsTo L k).length) : (stage L k).getD j bNone = stageF L k ((headsTo L k).getD j 0) := by
  rw [getD_at _ j _ (by rw [stage_length]; exact hj), getD_at _ j _ hj]
  simp [stage]
theorem headTo_at (L : List (BitVec 256)) (k j : Nat) (hj : j < (headsTo L k).length) : (headsTo L k).getD j 0 < k ∧ isHead L ((headsTo L k).getD j 0) = true := by
  rw [getD_at _ j _ hj]
  exact (mem_headsTo L k _).1 (List.getElem_mem hj)
theorem headsTo_nodup (L : List (BitVec 256)) (k i j : Nat) (hi : i < (headsTo L k).length) (hj : j < (headsTo L k).length) (h : (headsTo L k).getD i 0 = (headsTo L k).getD j 0) : i = j := by
  have hp : (headsTo L k).Pairwise (· < ·) := List.Pairwise.filter _ List.pairwise_lt_range
  rw [getD_at _ i _ hi, getD_at _ j _ hj] at h
  rcases Nat.lt_trichotomy i j with h' | h' | h'
  · have := List.pairwise_iff_getElem.1 hp i j hi hj h'; omega
  · exact h'
  · have := List.pairwise_iff_getElem.1 hp j i hj hi h'; omega
/-- the first byte of a part that is gathered -/
theorem below_stage (L : List (BitVec 256)) (k h : Nat) (hk : k ≤ 256) (hh : h < k) (hd : isHead L h = true) : ∃ l, below (stageF L k h) 256 = h :: l := by
  unfold below
  have e : List.range 256 = List.range h ++ (h :: (List.range (255 - h)).map (h + 1 + ·)) := by
    rw [show 256 = h + ((255 - h) + 1) from by omega, List.range_add, List.range_succ_eq_map, List.map_cons, List.map_map]
    simp [Function.comp_def, Nat.add_assoc, Nat.add_comm 1]
  rw [e, List.filter_append]
  have h1 : (List.range h).filter (stageF L k h) = [] := by
    rw [List.filter_eq_nil_iff]
    intro c hc
    rw [List.mem_range] at hc
    have := (isHead_iff L h).1 hd c hc
    unfold stageF
    by_cases hs : same L h c = true
    · rw [same_symm hs] at this; cases this
    · simp [hs]
  have h2 : stageF L k h h = true := by unfold stageF; rw [same_refl]; simp [hh]
  rw [h1, List.nil_append, List.filter_cons, if_pos h2]
  exact ⟨_, rfl⟩
def placeTo (L : List (BitVec 256)) (H : List Nat) (b : Nat) : Nat → Int
  | 0 => -1
  | i + 1 => if same L (H.getD i 0) b then (i : Int) else placeTo L H b i
theorem place_none {L : List (BitVec 256)} {H : List Nat} {b : Nat} : ∀ (i : Nat), (∀ j, j < i → same L (H.getD j 0) b = false) → placeTo L H b i = -1
  | 0, _ => rfl
  | i + 1, h => by
    rw [placeTo, if_neg (by rw [h i (by omega)]; simp)]
    exact place_none i (fun j hj => h j (by omega))
theorem place_some {L : List (BitVec 256)} {H : List Nat} {b j : Nat} (hj : same L (H.getD j 0) b = true) : ∀ (i : Nat), j < i → (∀ j', j' < i → same L (H.getD j' 0) b = true → j' = j) → placeTo L H b i = j
  | 0, h, _ => by omega
  | i + 1, h, hu => by
    by_cases hs : same L (H.getD i 0) b = true
    · rw [placeTo, if_pos hs, hu i (by omega) hs]
    · rw [placeTo, if_neg hs]
      by_cases hij : j = i
      · subst hij; exact absurd hj hs
      · exact place_some hj i (by omega) (fun j' h' => hu j' (by omega))
theorem place_range (L : List (BitVec 256)) (H : List Nat) (b : Nat) : ∀ (i : Nat), -1 ≤ placeTo L H b i ∧ placeTo L H b i < i
  | 0 => ⟨by simp [placeTo], by simp [placeTo]⟩
  | i + 1 => by
    have := place_range L H b i
    rw [placeTo]
    split <;> omega
/-- a byte that is a head begins a part of its own -/
theorem stage_head (L : List (BitVec 256)) (k : Nat) (hh : isHead L k = true) (hk : k < 256) :
    placeTo L (headsTo L k) k (headsTo L k).length = -1 ∧ refCells (stage L (k + 1)) = refCells (stage L k ++ [fun i => if i = k then true else bNone i]) ∧ (stage L (k + 1)).length = (stage L k).length + 1 := by
  refine ⟨place_none _ (fun j hj => ?_), ?_, ?_⟩
  · exact (isHead_iff L k).1 hh _ (headTo_at L k j hj).1
  · rw [refCells_append, refCells_one]
    unfold stage
    rw [headsTo_succ, if_pos hh, List.map_append, refCells_append, List.map_cons, List.map_nil, refCells_one]
    congr 1
    · unfold refCells
      rw [List.flatMap_map, List.flatMap_map]
      apply flatMap_eq
      intro h hm
      rw [bc_ext (stageF L (k + 1) h) (stageF L k h) (fun c hc => ?_)]
      unfold stageF
      have hlt := ((mem_headsTo L k h).1 hm).1
      by_cases hck : c = k
      · subst hck
        rw [(isHead_iff L c).1 hh h hlt]; simp
      · have : decide (c < k + 1) = decide (c < k) := by rw [decide_eq_decide]; omega
        rw [this]
    · rw [bc_ext (stageF L (k + 1) k) (fun i => if i = k then true else bNone i) (fun c hc => ?_)]
      unfold stageF
      by_cases hck : c = k
      · subst hck; rw [same_refl]; simp
      · rw [if_neg hck]
        show _ = false
        by_cases hlt : c < k
        · have := (isHead_iff L k).1 hh c hlt
          by_cases hs : same L k c = true
          · rw [same_symm hs] at this; cases this
          · simp [hs]
        · simp; intro; omega
  · rw [stage_length, stage_length, headsTo_succ, if_pos hh]; simp
/-- any other byte goes into the part that has the like of it -/
theorem stage_other (L : List (BitVec 256)) (k : Nat) (hh : isHead L k = false) (hk : k < 256) :
    ∃ j, j < (stage L k).length ∧ placeTo L (headsTo L k) k (headsTo L k).length = j ∧ refCells (stage L (k + 1)) = refCells ((stage L k).set j (fun i => if i = k then true else (stage L k).getD j bNone i)) ∧ (stage L (k + 1)).length = (stage L k).length := by
  obtain ⟨r1, r2, r3, r4⟩ := rep_facts L k hk
  have hlt : rep L k < k := by
    rcases Nat.lt_or_ge (rep L k) k with h | h
    · exact h
    · have : rep L k = k := by omega
      rw [this, hh] at r3; cases r3
  have hm : rep L k ∈ headsTo L k := (mem_headsTo L k _).2 ⟨hlt, r3⟩
  obtain ⟨j, hj, e⟩ := List.getElem_of_mem hm
  have ej : (headsTo L k).getD j 0 = rep L k := by rw [getD_at _ j _ hj]; exact e
  have hu : ∀ j', j' < (headsTo L k).length → same L ((headsTo L k).getD j' 0) k = true → j' = j := fun j' h' hs =>
    headsTo_nodup L k j' j h' hj (by rw [ej]; exact heads_eq (headTo_at L k j' h').2 r3 (same_trans hs r2))
  refine ⟨j, by rw [stage_length]; exact hj, place_some (by rw [ej]; exact same_symm r2) _ hj hu, ?_, ?_⟩
  · have hH : headsTo L (k + 1) = headsTo L k := by rw [headsTo_succ, if_neg (by rw [hh]; simp)]
    have hlen : (stage L (k + 1)).length = ((stage L k).set j (fun i => if i = k then true else (stage L k).getD j bNone i)).length := by rw [List.length_set, stage_length, stage_length, hH]
    apply refCells_ext _ _ hlen
    intro i hi c hc
    have hi' : i < (headsTo L k).length := by rwa [stage_length, hH] at hi
    rw [stage_at L (k + 1) i (by rw [hH]; exact hi'), hH]
    by_cases hij : i = j
    · subst hij
      rw [getD_at ((stage L k).set i _) i bNone (by rw [← hlen]; exact hi), List.getElem_set_self]
      unfold stageF
      by_cases hck : c = k
      · subst hck; rw [if_pos rfl, ej, same_symm r2]; simp
      · rw [if_neg hck, stage_at L k i hi']
        unfold stageF
        have : decide (c < k + 1) = decide (c < k) := by rw [decide_eq_decide]; omega
        rw [this]
    · rw [getD_at ((stage L k).set j _) i bNone (by rw [← hlen]; exact hi), List.getElem_set_ne (fun e => hij e.symm), ← getD_at _ i bNone (by rw [stage_length]; exact hi'), stage_at L k i hi']
      unfold stageF
      by_cases hck : c = k
      · subst hck
        have : same L ((headsTo L c).getD i 0) c = false := by
          by_cases hs : same L ((headsTo L c).getD i 0) c = true
          · exact absurd (hu i hi' hs) hij
          · simpa using hs
        rw [this]; simp
      · have : decide (c < k + 1) = decide (c < k) := by rw [decide_eq_decide]; omega
        rw [this]
  · rw [stage_length, stage_length, headsTo_succ, if_neg (by rw [hh]; simp)]
theorem stage_all (L : List (BitVec 256)) : refCells (stage L 256) = refCells ((partsOf L).map BitVec.getLsbD) ∧ (stage L 256).length = ((partsOf L).map BitVec.getLsbD).length := by
  refine ⟨?_, ?_⟩
  · unfold stage partsOf partsTo refCells
    rw [List.flatMap_map, List.map_map, List.flatMap_map]
    apply flatMap_eq
    intro h hm
    show (bc (stageF L 256 h)).toList = (bc (alike L h).getLsbD).toList
    rw [bc_ext (stageF L 256 h) (alike L h).getLsbD (fun c hc => ?_)]
    rw [alike_bit L h c hc]
    unfold stageF
    simp [hc]
  · rw [stage_length, List.length_map, parts_length]
/-- the call returns a new list of the document's sets -/
def RefsRow (w : World) (F : List (Nat → Bool)) (e : Ending) (w' : World) : Prop :=
  ∃ a cap, e = .returned (.slice a F.length cap) ∧ RefsAt w' a F.length cap F ∧ Below w.heap.size w w' ∧ (∀ x, a = some x → w.heap.size ≤ x.block ∧ x.off = 0)
theorem refs_cell {w : World} {base : Nat} {v : Value} {F : List (Nat → Bool)} (h : w.ownsRow base 38 256 v F.length (refCells F)) (j : Nat) (hj : j < F.length) :
    ∃ g cap, v = .slice (some ⟨g, 0, none⟩) F.length cap ∧ F.length ≤ cap ∧ base ≤ g ∧ g < w.heap.size ∧ Ref256 w g (j * 256) (F.getD j bNone) := by
  have hrow := h.2
  rcases hrow with ⟨h1, h0⟩ | ⟨g, c, cur, hv, hg, hblk, hnc, hcm, _⟩
  · omega
  · subst hv
    refine ⟨g, c, rfl, hnc, hg, lt_of_block hblk, fun q hq => ?_⟩
    rw [h.cellAt _ (by omega)]
    exact refCells_get F j hj q hq
theorem refList_head (L : List (BitVec 256)) (k h : Nat) (hk : k ≤ 256) (hh : h < k) (hd : isHead L h = true) (w : World) :
    Calls Tryd.prog 18 #[BV (stageF L k h)] w fun e w' => ∃ b off n cap, e = .returned (.slice (some ⟨b, off, none⟩) n cap) ∧ 0 < n ∧ n ≤ 256 ∧ n ≤ cap ∧ b < w'.heap.size ∧ w'.cell? ⟨b, off, none⟩ = some (.int .u8 (h : Int)) ∧ Below w.heap.size w w' := by
  obtain ⟨l, hl⟩ := below_stage L k h hk hh hd
  have hlt : ∀ x ∈ below (stageF L k h) 256, x < 256 := by
    intro x hx
    unfold below at hx
    rw [List.mem_filter, List.mem_range] at hx
    exact hx.1
  have hle := below_len (stageF L k h) 256
  refine (listAt_of_row (refList_any (stageF L k h) w) hlt).mono ?_
  rintro e w' ⟨a, cap, rfl, hb, hlist⟩
  obtain ⟨_, _, _, h0 | ⟨b, off, h1, h2, h3, h4⟩⟩ := hlist w' (Below.refl _ _)
  · rw [hl] at h0; simp at h0
  · subst h1
    have hpos : 0 < (below (stageF L k h) 256).length := by rw [hl]; simp
    have hc := h4 0 hpos
    rw [hl] at hc
    exact ⟨b, off, _, cap, rfl, hpos, hle, h2, h3, hc, hb⟩
set_option maxHeartbeats 4000000 in
theorem refBlocks_any (a : Option Addr) (n cap : Nat) (L : List (BitVec 256)) (w : World) (hl : RefsAt w a n cap (L.map BitVec.getLsbD)) :
    Calls Tryd.prog 17 #[.slice a n cap] w (RefsRow w ((partsOf L).map BitVec.getLsbD)) := by
  obtain ⟨hn, hmax, hcells⟩ := hl
  rw [List.length_map] at hn
  have Hn := Lib.hid hn
  clear hn
  unfold maxLen at hmax
  obtain ⟨i0, hi, hz0, hz1, hz2⟩ := info_parts info_ref
  have hz := zeroRef
  go_enter Tryd.func17, Tryd.ntmps17
  go_wp2_with fail
  go_loopw [3, 4] (fun v i wr => ∃ k : Nat, k ≤ 256 ∧ i = .int .i64 k ∧ wr.ownsRow w.heap.size 38 256 v (stage L k).length (refCells (stage L k)) ∧ Below w.heap.size w wr) (fun _ i _ => 256 - (intOf i).toNat)
  case atStart => exact ⟨0, by omega, rfl, World.ownsRow_nil _ _ _ _, Below.refl _ _⟩
  case round =>
    obtain ⟨k, hk, rfl, hown, hr⟩ := hrel
    by_cases hk256 : k < 256
    · have hd : decide ((k : Int) < 256) = true := by simp; omega
      have hslen : (stage L k).length ≤ 256 := by rw [stage_length]; have := headsTo_len L k; omega
      obtain ⟨sa, scap, rfl⟩ := owns_form hown
      have Hown := Lib.hid hown
      clear hown
      obtain ⟨wo, rfl⟩ : ∃ wo : World, wo = wr := ⟨_, rfl⟩
      go_wp2_with fail
      go_loopw [5, 6] (fun v i wx => ∃ j : Nat, j ≤ (stage L k).length ∧ i = .int .i64 j ∧ v = .int .i64 (placeTo L (headsTo L k) k j) ∧ Below wo.heap.size wo wx) (fun _ i _ => (stage L k).length - (intOf i).toNat)
      case atStart => exact ⟨0, by omega, rfl, rfl, Below.refl _ _⟩
      case round =>
        obtain ⟨j, hj, rfl, rfl, hx⟩ := hrel
        by_cases hjl : j < (stage L k).length
        · have hd : decide ((j : Int) < (stage L k).length) = true := by simp; omega
          obtain ⟨g, c2, hv, hcap2, hg0, hg1, hcell⟩ := refs_cell Hown.out j hjl
          cases hv
          have hjh : j < (headsTo L k).length := by rw [← stage_length]; exact hjl
          obtain ⟨hh1, hh2⟩ := headTo_at L k j hjh
          rw [stage_at L k j hjh] at hcell
          have hstep : placeTo L (headsTo L k) k (j + 1) = if same L ((headsTo L k).getD j 0) k then (j : Int) else placeTo L (headsTo L k) k j := rfl
          have Hstep := Lib.hid hstep
          clear hstep
          generalize (headsTo L k).getD j 0 = h at *
          have hlist := refList_head L k h hk hh1 hh2
          have hcx := hcell.below hx hg1
          clear hcell
          go_wp2_with (first
            | (refine wpList_load_refAt rfl _ rfl g (j * 256) (stageF L k h) rfl hcx ?_)
            | (go_at_call 18; refine (hlist _).mono ?_; rintro e w3 ⟨lb, lo, ln, lc, rfl, hln0, hln, hlc, hlb, hlcell, hb3⟩))
          have hx3 := hx.trans (hb3.mono hx.size)
          clear hlcell hb3 hlist hcx hx
          go_loopw [8, 9] (fun v i wx => ∃ m : Nat, m ≤ n ∧ i = .int .i64 m ∧ v = .bool (same (L.take m) h k) ∧ Below wo.heap.size wo wx) (fun _ i _ => n - (intOf i).toNat)
          case atStart => exact ⟨0, by omega, rfl, rfl, hx3⟩
          case round =>
            obtain ⟨m, hm, rfl, rfl, hy⟩ := hrel
            by_cases hmn : m < n
            · rcases hcells with h0 | ⟨bb, off, rfl, hcap, hbw, hcells⟩
              · omega
              · have hd : decide ((m : Int) < n) = true := by simp; omega
                have hml : m < L.length := by rw [← Hn.out]; exact hmn
                have hst := Lib.hid (same_take_succ L m h k hml)
                have hcm := hcells m hmn
                rw [getD_at _ m bNone (by rw [List.length_map]; exact hml), List.getElem_map, ← getD_at L m 0 hml] at hcm
                have hwr := hr.trans (hy.mono hr.size)
                have hbr : bb < wr.heap.size := by have := hwr.size; omega
                have g1 : ∀ L' : Later wr, L'.val.cell? ⟨bb, off + m * 256 + h, none⟩ = some (.bool ((L.getD m 0).getLsbD h)) := fun L' => ((hcm.below hwr hbw).below L'.ok hbr) h (by omega)
                have g2 : ∀ L' : Later wr, L'.val.cell? ⟨bb, off + m * 256 + k, none⟩ = some (.bool ((L.getD m 0).getLsbD k)) := fun L' => ((hcm.below hwr hbw).below L'.ok hbr) k hk256
                generalize (L.getD m 0).getLsbD h = vh at *
                generalize (L.getD m 0).getLsbD k = vk at *
                have hne := Later.nonempty wr
                clear hcells hcm
                have hh256 : (h : Int) < 256 := by omega
                have hk256' : (k : Int) < 256 := by omega
                cases hv : same (L.take m) h k
                · rw [hv] at hst
                  go_wp2_with fail
                  refine wp_region_later (W0 := wr) (Below.refl _ _) (by kernel_rfl) (by as_aux_lemma => kernel_rfl) ?_
                  repeat (go_big_quiet_step (fail))
                  refine wpQuiet_nil ?_
                  intro w' hw'
                  obtain ⟨L', rfl⟩ := hw'
                  have h5 := hy.trans (L'.ok.mono hy.size)
                  go_wp2_with fail
                  go_roundw
                  case rel => exact ⟨m + 1, by omega, by go_num, by rw [hst.out]; rfl, h5⟩
                  case measure => simp [intOf]; omega
                · rw [hv] at hst
                  go_wp2_with fail
                  refine wp_region_later (W0 := wr) (Below.refl _ _) (by kernel_rfl) (by as_aux_lemma => kernel_rfl) ?_
                  repeat (go_big_quiet_step (fail))
                  refine wpQuiet_nil ?_
                  intro w' hw'
                  obtain ⟨L', rfl⟩ := hw'
                  have h5 := hy.trans (L'.ok.mono hy.size)
                  go_wp2_with fail
                  go_roundw
                  case rel => exact ⟨m + 1, by omega, by go_num, by rw [hst.out]; rfl, h5⟩
                  case measure => simp [intOf]; omega
            · obtain rfl : m = n := by omega
              have hd : decide ((m : Int) < m) = false := by simp
              have ht : L.take m = L := List.take_of_length_le (by rw [Hn.out]; exact Nat.le_refl _)
              rw [ht]
              cases hv : same L h k
              · rw [hv] at Hstep
                go_wp2_with fail
                go_roundw
                case rel => exact ⟨j + 1, by omega, by go_num, by rw [Hstep.out]; rfl, hy⟩
                case measure => simp [intOf]; omega
              · rw [hv] at Hstep
                go_wp2_with fail
                go_roundw
                case rel => exact ⟨j + 1, by omega, by go_num, by rw [Hstep.out]; rfl, hy⟩
                case measure => simp [intOf]; omega
        · obtain rfl : j = (stage L k).length := by omega
          have hd : decide (((stage L k).length : Int) < (stage L k).length) = false := by simp
          have Hown2 := Lib.hid (owns_below Hown.out hx)
          have hrx := hr.trans (hx.mono hr.size)
          have hkk : (k : Int) < 256 := by omega
          clear Hown hx hr
          cases hhd : isHead L k
          · obtain ⟨jj, hj1, hj2, hj3, hj4⟩ := stage_other L k hhd hk256
            rw [← stage_length L k] at hj2
            rw [hj2]
            obtain ⟨g, c2, hv, hcap2, hg0, hg1, hcell⟩ := refs_cell Hown2.out jj hj1
            cases hv
            have hcc := hcell k hk256
            have hff := Hown2.out.frozenAt (jj * 256 + k)
            have hst := (Hown2.out.stored (jj * 256 + k) (.bool true)).1
            rw [refCells_set _ jj hj1 k hk256, ← hj3] at hst
            have Hst := Lib.hid hst
            have H4 := Lib.hid hj4
            have hd0 : decide ((jj : Int) < 0) = false := by simp
            generalize (stage L k).getD jj bNone k = v0 at *
            clear hst hj2 hj3 hj4 hcell
            go_wp2_with fail
            go_roundw
            case rel => exact ⟨k + 1, by omega, by go_num, by rw [H4.out]; exact Hst.out, hrx.setCell (p := ⟨g, jj * 256 + k, none⟩) hg0 _⟩
            case measure => simp [intOf]; omega
          · obtain ⟨hj2, hj3, hj4⟩ := stage_head L k hhd hk256
            rw [← stage_length L k] at hj2
            rw [hj2]
            have H3 := Lib.hid hj3
            have H4 := Lib.hid hj4
            have hnw := own_ne_new Hown2.out (Nat.le_refl _)
            clear hj2 hj3 hj4
            generalize stage L k = S at *
            go_wp2_with (first
              | (refine wpList_zero_ref rfl rfl ?_)
              | (refine wpList_build_ref rfl _ rfl bNone rfl ?_)
              | (at_builtin; refine wpList_append_own _ rfl _ _ 36 rfl w.heap.size 38 i0 (.agg (bc bNone)) 256 256 Tryd.underlying36 hi hz0 hz1 hz2 (bc_size _) (by decide) _ _ _ rfl (Hown2.out.alloc _) ⟨wr.heap.size, 0, none⟩ 1 1 (bc bNone).toList rfl (by rw [bc_length]) ?c1 ?c2 ?c3 ?c4 ?c5 ?_))
            case c1 => exact bc_new _ _ _
            case c2 => exact bc_list_one _
            case c3 => unfold maxLen; omega
            case c4 => omega
            case c5 => have := hrx.size; simp; omega
            intro v' w5 hown5 hgrow _
            rw [← refCells_one, ← refCells_append] at hown5
            have hn5 := (hrx.alloc hrx.size _).grown hgrow (by have := hrx.size; simp; omega) (fun k hk => (Hown2.out.lt k hk).1)
            have hown6 : w5.ownsRow w.heap.size 38 256 v' (S ++ [bNone]).length (refCells (S ++ [bNone])) := by rw [List.length_append, List.length_singleton]; exact hown5
            have hjl : S.length < (S ++ [bNone]).length := by simp
            obtain ⟨g, c2, rfl, hcap2, hg0, hg1, hcell⟩ := refs_cell hown6 S.length hjl
            have hget : (S ++ [bNone]).getD S.length bNone = bNone := by rw [getD_at _ _ _ hjl]; simp
            have hcc := hcell k hk256
            rw [hget] at hcc
            have hff := hown6.frozenAt (S.length * 256 + k)
            have hst := (hown6.stored (S.length * 256 + k) (.bool true)).1
            rw [refCells_set _ S.length hjl k hk256, hget] at hst
            have hset : (S ++ [bNone]).set S.length (fun i => if i = k then true else bNone i) = S ++ [fun i => if i = k then true else bNone i] := by rw [List.set_append_right _ _ (Nat.le_refl _)]; simp
            rw [hset, ← H3.out] at hst
            rw [List.length_append, List.length_singleton] at hst hcap2 ⊢
            have Hst := Lib.hid hst
            clear hst hown5 hown6 hgrow hcell hget hset hjl hrx Hown2
            go_wp2_with fail
            go_roundw
            case rel => exact ⟨k + 1, by omega, by go_num, by rw [H4.out]; exact Hst.out, hn5.setCell (p := ⟨g, S.length * 256 + k, none⟩) hg0 _⟩
            case measure => simp [intOf]; omega
    · obtain rfl : k = 256 := by omega
      have hd : decide ((256 : Int) < 256) = false := by decide
      obtain ⟨e1, e2⟩ := stage_all L
      rw [e1, e2] at hown
      go_wp2_with fail
      go_ret
      obtain ⟨x, c, rfl⟩ := owns_form hown
      obtain ⟨h1, h2⟩ := refsAt_of_owns hown
      exact ⟨x, c, rfl, h1, hr, h2⟩
end Go.Proofs.YtnhlopbpggdneaaDoor
