/- The walks of block.Find, block.head, block.Heads, block.Map. -/
import Derived.Test.YtnhlopbpggdneaaDoorBlockMem
import Derived.Deep.LoopGhost
namespace Go.Proofs.YtnhlopbpggdneaaDoor
open Go.RowKit

/-- some set of M holds b; the place of the first; what Map lays in the place of b -/
def findOk (M : List (BitVec 256)) (b : Nat) : Bool := M.any fun s => s.getLsbD b
def findAt (M : List (BitVec 256)) (b : Nat) : Nat := if findOk M b then M.findIdx (fun s => s.getLsbD b) else 0
def headOf (M : List (BitVec 256)) (b : Nat) : Nat := if findOk M b then (elems (M.getD (findAt M b) 0)).headD 0 else b
theorem getD_at {α : Type} (M : List α) (k : Nat) (d : α) (hk : k < M.length) : M.getD k d = M[k] := by rw [List.getD_eq_getElem?_getD, List.getElem?_eq_getElem hk]; rfl
theorem find_here {M : List (BitVec 256)} {b k : Nat} (hk : k < M.length) (h : (M.getD k 0).getLsbD b = true) (hn : ∀ j, j < k → (M.getD j 0).getLsbD b = false) : findOk M b = true ∧ findAt M b = k := by
  have h1 : findOk M b = true := by
    unfold findOk
    rw [List.any_eq_true]
    refine ⟨M[k], List.getElem_mem _, ?_⟩
    rw [← getD_at M k 0 hk]; exact h
  refine ⟨h1, ?_⟩
  unfold findAt
  rw [if_pos h1, List.findIdx_eq hk]
  refine ⟨by rw [← getD_at M k 0 hk]; exact h, fun j hj => ?_⟩
  have := hn j hj
  rw [getD_at M j 0 (by omega)] at this
  simpa using this
theorem find_none {M : List (BitVec 256)} {b : Nat} (hn : ∀ j, j < M.length → (M.getD j 0).getLsbD b = false) : findOk M b = false ∧ findAt M b = 0 := by
  have h1 : findOk M b = false := by
    unfold findOk
    rw [List.any_eq_false]
    intro s hs
    obtain ⟨j, hj, rfl⟩ := List.getElem_of_mem hs
    have := hn j hj
    rw [getD_at M j 0 hj] at this
    simp [this]
  exact ⟨h1, by unfold findAt; rw [if_neg (by simp [h1])]⟩
theorem find_facts {M : List (BitVec 256)} {b : Nat} (h : findOk M b = true) : findAt M b < M.length ∧ (M.getD (findAt M b) 0).getLsbD b = true := by
  have hlt : M.findIdx (fun s => s.getLsbD b) < M.length := by
    rw [List.findIdx_lt_length]
    unfold findOk at h
    rw [List.any_eq_true] at h
    exact h
  unfold findAt
  rw [if_pos h]
  refine ⟨hlt, ?_⟩
  rw [getD_at M _ 0 hlt]
  exact List.findIdx_getElem (w := hlt)
theorem ret_find {i j : Int} {c d : Bool} (h : i = j) (h' : c = d) : Ending.returned (.tuple #[.int .i64 i, .bool c]) = .returned (.tuple #[.int .i64 j, .bool d]) := by rw [h, h']
set_option maxHeartbeats 2000000 in
theorem find_any (a : Option Addr) (n cap : Nat) (M : List (BitVec 256)) (b : Nat) (hb : b < 256) (w : World) (hl : SetsAt w a n cap M) :
    Calls Tryd.prog 13 #[.slice a n cap, .int .u8 b] w fun e w' => e = .returned (.tuple #[.int .i64 (findAt M b), .bool (findOk M b)]) ∧ Below w.heap.size w w' := by
  obtain ⟨hn, hmax, hcells⟩ := hl
  have Hn := Lib.hid hn
  clear hn
  unfold maxLen at hmax
  go_enter Tryd.func13, Tryd.ntmps13
  go_wp2
  go_loopw [10] (fun i wr => ∃ k : Nat, k ≤ n ∧ i = .int .i64 k ∧ (∀ j, j < k → (M.getD j 0).getLsbD b = false) ∧ Below w.heap.size w wr) (fun i _ => n - (intOf i).toNat)
  case atStart => exact ⟨0, by omega, rfl, fun j hj => by omega, Below.refl _ _⟩
  case round =>
    obtain ⟨k, hk, rfl, hno, hr⟩ := hrel
    have Hno := Lib.hid hno
    clear hno
    by_cases hkn : k < n
    · rcases hcells with h0 | ⟨bb, off, rfl, hcap, hbw, hcells⟩
      · omega
      · have hd : decide ((k : Int) < n) = true := by simp; omega
        obtain ⟨s, hs⟩ : ∃ s, s = M.getD k 0 := ⟨_, rfl⟩
        have hc : Set4 wr bb (off + k * 4) s := by rw [hs]; exact (hcells k hkn).below hr hbw
        have Hs := Lib.hid hs
        clear hcells hs
        have hhas := has_any s b hb
        by_cases hsb : s.getLsbD b = true
        · rw [hsb] at hhas
          have hfin := Lib.hid (find_here (M := M) (b := b) (k := k) (by rw [← Hn.out]; exact hkn) (by rw [← Hs.out]; exact hsb) Hno.out)
          go_wp2_with (first
            | (refine wpList_load_set rfl _ rfl bb (off + k * 4) s rfl hc ?_)
            | (refine wpList_load_set rfl _ rfl wr.heap.size 0 s rfl hs3.four ?_)
            | (refine wpList_store_set rfl _ _ rfl wr.heap.size 0 s rfl rfl (setAt_new _) ?_; intro w3 hs3 ho3; have hn3 := ho3.below (hr.alloc hr.size _) hr.size)
            | (go_at_call 19; refine (hhas _).mono ?_; rintro e w4 ⟨rfl, hb4⟩; have hn4 := hn3.trans (hb4.mono hn3.size)))
          go_ret2
          exact ⟨ret_find (by rw [hfin.out.2]) (by rw [hfin.out.1]), hn4⟩
        · replace hsb : s.getLsbD b = false := by simpa using hsb
          rw [hsb] at hhas
          go_wp2_with (first
            | (refine wpList_load_set rfl _ rfl bb (off + k * 4) s rfl hc ?_)
            | (refine wpList_load_set rfl _ rfl wr.heap.size 0 s rfl hs3.four ?_)
            | (refine wpList_store_set rfl _ _ rfl wr.heap.size 0 s rfl rfl (setAt_new _) ?_; intro w3 hs3 ho3; have hn3 := ho3.below (hr.alloc hr.size _) hr.size)
            | (go_at_call 19; refine (hhas _).mono ?_; rintro e w4 ⟨rfl, hb4⟩; have hn4 := hn3.trans (hb4.mono hn3.size)))
          go_roundw
          case rel => exact ⟨k + 1, by omega, by go_num, fun j hj => by
            by_cases hjk : j = k
            · subst hjk; rw [← Hs.out]; exact hsb
            · exact Hno.out j (by omega), hn4⟩
          case measure => simp [intOf]; omega
    · obtain rfl : k = n := by omega
      have hd : decide ((k : Int) < k) = false := by simp
      have hfin := Lib.hid (find_none (M := M) (b := b) (fun j hj => Hno.out j (by rw [Hn.out]; exact hj)))
      clear hcells
      go_wp2
      go_ret2
      exact ⟨ret_find (by rw [hfin.out.2]; rfl) (by rw [hfin.out.1]), hr⟩
set_option maxHeartbeats 2000000 in
theorem head_any (a : Option Addr) (n cap : Nat) (M : List (BitVec 256)) (b : Nat) (hb : b < 256) (w : World) (hl : SetsAt w a n cap M) (hT : TabAt 0 Lib.deBruijn64tab w) :
    Calls Tryd.prog 27 #[.slice a n cap, .int .u8 b] w fun e w' => e = .returned (.int .u8 (headOf M b)) ∧ Below w.heap.size w w' := by
  have hf := find_any a n cap M b hb w hl
  by_cases hok : findOk M b = true
  · obtain ⟨h1, h2⟩ := find_facts hok
    have hh : headOf M b = (elems (M.getD (findAt M b) 0)).headD 0 := by unfold headOf; rw [if_pos hok]
    rw [hok] at hf
    generalize findAt M b = i at *
    obtain ⟨hn, hmax, hcells⟩ := hl
    rcases hcells with h0 | ⟨bb, off, rfl, hcap, hbw, hcells⟩
    · omega
    · have hin : i < n := by omega
      have hcl := hcells i hin
      generalize M.getD i 0 = s at *
      have Hn := Lib.hid hn
      have Hh := Lib.hid hh
      unfold maxLen at hmax
      clear hcells hn h1 hh
      go_enter Tryd.func27, Tryd.ntmps27
      go_wp2_with (first
        | (go_at_call 13; refine hf.mono ?_; rintro e w1 ⟨rfl, hb1⟩; have hc1 := hcl.below hb1 hbw; have hT1 := tab_below hT hb1 (tab_pos hT))
        | (refine wpList_load_set rfl _ rfl bb (off + i * 4) s rfl hc1 ?_)
        | (go_at_call 23; refine (least_any s _ hT1).mono ?_; rintro e w2 ⟨rfl, hb2⟩))
      go_ret
      exact ⟨ret_int (by rw [Hh.out]; simp), hb1.trans (hb2.mono hb1.size)⟩
  · replace hok : findOk M b = false := by simpa using hok
    have hh : headOf M b = b := by unfold headOf; rw [if_neg (by simp [hok])]
    rw [hok] at hf
    have Hh := Lib.hid hh
    clear hh
    go_enter Tryd.func27, Tryd.ntmps27
    go_wp2_with (go_at_call 13; refine hf.mono ?_; rintro e w1 ⟨rfl, hb1⟩)
    go_ret
    exact ⟨ret_int (by rw [Hh.out]), hb1⟩
/-- the least bytes of the sets that have one -/
def headsOf (M : List (BitVec 256)) : List Nat := M.filterMap fun s => (elems s).head?
theorem headsOf_nil (M : List (BitVec 256)) (s : BitVec 256) (h : elems s = []) : headsOf (M ++ [s]) = headsOf M := by simp [headsOf, h]
theorem headsOf_cons (M : List (BitVec 256)) (s : BitVec 256) (b : Nat) (l : List Nat) (h : elems s = b :: l) : headsOf (M ++ [s]) = headsOf M ++ [b] := by simp [headsOf, h]
theorem headsOf_len (M : List (BitVec 256)) : (headsOf M).length ≤ M.length := List.length_filterMap_le _ _
set_option maxHeartbeats 2000000 in
theorem heads_any (a : Option Addr) (n cap : Nat) (M : List (BitVec 256)) (w : World) (hl : SetsAt w a n cap M) (hn48 : n ≤ 70368744177664) (hT : TabAt 0 Lib.deBruijn64tab w) :
    Calls Tryd.prog 14 #[.slice a n cap] w (ByteRow w (headsOf M)) := by
  obtain ⟨hn, hmax, hcells⟩ := hl
  obtain ⟨i0, hi, hz0, hz1, hz2⟩ := info_parts info_u8
  have Hn := Lib.hid hn
  clear hn
  unfold maxLen at hmax
  go_enter Tryd.func14, Tryd.ntmps14
  go_wp2
  go_loopw [3, 10] (fun v i wr => ∃ k : Nat, k ≤ n ∧ i = .int .i64 k ∧ wr.ownsRow w.heap.size 5 1 v (headsOf (M.take k)).length ((headsOf (M.take k)).map u8v) ∧ Below w.heap.size w wr) (fun _ i _ => n - (intOf i).toNat)
  case atStart => exact ⟨0, by omega, rfl, World.ownsRow_nil _ _ _ _, Below.refl _ _⟩
  case round =>
    obtain ⟨k, hk, rfl, hown, hr⟩ := hrel
    by_cases hkn : k < n
    · rcases hcells with h0 | ⟨bb, off, rfl, hcap, hbw, hcells⟩
      · omega
      · have hd : decide ((k : Int) < n) = true := by simp; omega
        obtain ⟨s, hs⟩ : ∃ s, s = M.getD k 0 := ⟨_, rfl⟩
        have hc : Set4 wr bb (off + k * 4) s := by rw [hs]; exact (hcells k hkn).below hr hbw
        have hkl : k < M.length := by rw [← Hn.out]; exact hkn
        have hnext : M.take (k + 1) = M.take k ++ [s] := by rw [List.take_succ_eq_append_getElem hkl, hs, getD_at M k 0 hkl]
        have Hnil := Lib.hid (headsOf_nil (M.take k) s)
        have Hcons := Lib.hid (headsOf_cons (M.take k) s)
        rw [← hnext] at Hnil Hcons
        have hlen := headsOf_len (M.take k)
        rw [List.length_take] at hlen
        have Hown := Lib.hid hown
        clear hcells hs hnext hown
        generalize headsOf (M.take k) = pre at Hnil Hcons hlen Hown
        cases he : elems s with
        | nil =>
          have hle := least_any s
          rw [he] at hle
          go_wp2_with (first
            | (refine wpList_load_set rfl _ rfl bb (off + k * 4) s rfl hc ?_)
            | (refine wpList_load_set rfl _ rfl wr.heap.size 0 s rfl hs3.four ?_)
            | (refine wpList_store_set rfl _ _ rfl wr.heap.size 0 s rfl rfl (setAt_new _) ?_; intro w3 hs3 ho3; have hn3 := ho3.below (hr.alloc hr.size _) hr.size; have hT3 := tab_below hT hn3 (tab_pos hT); have Hown3 := Lib.hid (ho3.owns (Hown.out.alloc _) (own_ne_new Hown.out (Nat.le_refl _))))
            | (go_at_call 23; refine (hle _ hT3).mono ?_; rintro e w4 ⟨rfl, hb4⟩; have hn4 := hn3.trans (hb4.mono hn3.size); have Hown4 := Lib.hid (owns_below Hown3.out hb4)))
          go_roundw
          case rel => exact ⟨k + 1, by omega, by go_num, by rw [Hnil.out he]; exact Hown4.out, hn4⟩
          case measure => simp [intOf]; omega
        | cons b l =>
          have hle := least_any s
          rw [he] at hle
          have Hb := Lib.hid (Hcons.out b l he)
          clear Hcons Hnil
          go_wp2_with (first
            | (refine wpList_load_set rfl _ rfl bb (off + k * 4) s rfl hc ?_)
            | (refine wpList_load_set rfl _ rfl wr.heap.size 0 s rfl hs3.four ?_)
            | (refine wpList_store_set rfl _ _ rfl wr.heap.size 0 s rfl rfl (setAt_new _) ?_; intro w3 hs3 ho3; have hn3 := ho3.below (hr.alloc hr.size _) hr.size; have hT3 := tab_below hT hn3 (tab_pos hT); have Hown3 := Lib.hid (ho3.owns (Hown.out.alloc _) (own_ne_new Hown.out (Nat.le_refl _))))
            | (go_at_call 23; refine (hle _ hT3).mono ?_; rintro e w4 ⟨rfl, hb4⟩; have hn4 := hn3.trans (hb4.mono hn3.size); have Hown4 := Lib.hid (owns_below Hown3.out hb4))
            | (at_builtin; refine wpList_append_own _ rfl _ _ 33 rfl w.heap.size 5 i0 (.int .u8 0) 1 1 Tryd.underlying33 hi hz0 hz1 hz2 rfl (by decide) _ _ _ rfl (Hown4.out.alloc _) ⟨w4.heap.size, 0, none⟩ 1 1 [u8v b] rfl rfl ?c1 ?c2 ?c3 ?c4 ?c5 ?_))
          case c1 => first | exact cell_one_new _ _ _ | (intro j u h; exact h)
          case c2 => first | rfl | (intro u hu; simp at hu; subst hu; rfl)
          case c3 => unfold maxLen; omega
          case c4 => omega
          case c5 => have := hn4.size; simp; omega
          intro v' w5 hown5 hgrow _
          have hn5 := (hn4.alloc hn4.size _).grown hgrow (by have := hn4.size; simp; omega) (fun k hk => (Hown4.out.lt k hk).1)
          have Hown5 := Lib.hid hown5
          clear hown5 hgrow
          go_wp2_with fail
          go_roundw
          case rel => exact ⟨k + 1, by omega, by go_num, by rw [Hb.out, List.map_append, List.length_append]; exact Hown5.out, hn5⟩
          case measure => simp [intOf]; omega
    · obtain rfl : k = n := by omega
      have hd : decide ((k : Int) < k) = false := by simp
      have ht : M.take k = M := List.take_of_length_le (by rw [Hn.out]; exact Nat.le_refl _)
      rw [ht] at hown
      clear hcells ht
      go_wp2_with fail
      go_ret
      exact ⟨_, rfl, hown, hr⟩
theorem map_at_take (f : Nat → Nat) (l : List Nat) (k : Nat) (hk : k < l.length) (z : Value) : ((l.take k).map (fun x => u8v (f x)) ++ List.replicate (l.length - k) z)[k]? = some z := by
  have hm : min k l.length = k := Nat.min_eq_left (by omega)
  rw [List.getElem?_append_right (by rw [List.length_map, List.length_take, hm]; exact Nat.le_refl _), List.length_map, List.length_take, hm, Nat.sub_self, List.getElem?_replicate, if_pos (by omega)]
theorem map_set_take (f : Nat → Nat) (l : List Nat) (k : Nat) (hk : k < l.length) (z : Value) :
    ((l.take k).map (fun x => u8v (f x)) ++ List.replicate (l.length - k) z).set k (u8v (f (l.getD k 0))) = (l.take (k + 1)).map (fun x => u8v (f x)) ++ List.replicate (l.length - (k + 1)) z := by
  rw [List.take_succ_eq_append_getElem hk, List.map_append, List.append_assoc, getD_at l k 0 hk]
  have e : l.length - k = (l.length - (k + 1)) + 1 := by omega
  have hm : min k l.length = k := Nat.min_eq_left (by omega)
  rw [e, List.replicate_succ, List.set_append_right _ _ (by simp; omega)]
  congr 1
  simp [hm]
set_option maxHeartbeats 2000000 in
theorem map_any (a : Option Addr) (n cap : Nat) (M : List (BitVec 256)) (a' : Option Addr) (n' cap' : Nat) (l : List Nat) (w : World) (hl : SetsAt w a n cap M) (hl' : BytesAt w a' n' cap' l) (hn48 : n' ≤ 70368744177664) (hT : TabAt 0 Lib.deBruijn64tab w) :
    Calls Tryd.prog 15 #[.slice a n cap, .slice a' n' cap'] w (ByteRow w (l.map (headOf M))) := by
  obtain ⟨hn, hlt, hmax, hcells⟩ := hl'
  obtain ⟨i0, hi, hz0, hz1, hz2⟩ := info_parts info_u8
  have Hn := Lib.hid hn
  clear hn
  unfold maxLen at hmax
  go_enter Tryd.func15, Tryd.ntmps15
  go_wp2_with (at_make; refine wpList_make_full _ rfl _ _ 33 rfl w.heap.size 5 i0 (.int .u8 0) 1 Tryd.underlying33 hi hz0 hz1 .i64 .i64 _ _ n' rfl rfl rfl rfl (by rw [hz2]; omega) (by unfold maxLen; omega) (Nat.le_refl _) ?_; intro w2 hown2 hgrow2)
  have hst : w2.ownsRow w.heap.size 5 1 (Value.slice (some ⟨w.heap.size, 0, none⟩) n' n') n' ((l.take 0).map (fun x => u8v (headOf M x)) ++ List.replicate (l.length - 0) (.int .u8 0)) := by
    have e : (madeCells (Value.int IntKind.u8 0).cells (n' * 1)).toList = (l.take 0).map (fun x => u8v (headOf M x)) ++ List.replicate (l.length - 0) (.int .u8 0) := by
      rw [show (Value.int IntKind.u8 0).cells = #[.int .u8 0] from rfl, toList_madeCells_one, Nat.mul_one, ← Hn.out]; simp
    rw [← e]; exact hown2
  have hb2 : Below w.heap.size w w2 := (Below.refl _ _).grown hgrow2 (Nat.le_refl _) (fun k hk => by cases hk)
  clear hown2 hgrow2
  go_loopw [13] (fun i wr => ∃ k : Nat, k ≤ n' ∧ i = .int .i64 k ∧ wr.ownsRow w.heap.size 5 1 (Value.slice (some ⟨w.heap.size, 0, none⟩) n' n') n' ((l.take k).map (fun x => u8v (headOf M x)) ++ List.replicate (l.length - k) (.int .u8 0)) ∧ Below w.heap.size w wr) (fun i _ => n' - (intOf i).toNat)
  case atStart => exact ⟨0, by omega, rfl, hst, hb2⟩
  case round =>
    clear hst
    obtain ⟨k, hk, rfl, hown, hr⟩ := hrel
    by_cases hkn : k < n'
    · rcases hcells with h0 | ⟨b, off, rfl, hcap, hbw, hcells⟩
      · omega
      · have hd : decide ((k : Int) < n') = true := by simp; omega
        have hkl : k < l.length := by rw [← Hn.out]; exact hkn
        obtain ⟨x, hx⟩ : ∃ x, x = l.getD k 0 := ⟨_, rfl⟩
        have hcell : wr.cell? ⟨b, off + k, none⟩ = some (.int .u8 (x : Int)) := by rw [hr.cell (p := ⟨b, off + k, none⟩) hbw, hcells k hkn, hx]; rfl
        have hx256 : x < 256 := by rw [hx, getD_at l k 0 hkl]; exact hlt _ (List.getElem_mem _)
        have hh := head_any a n cap M x hx256 wr (hl.below hr rfl) (tab_below hT hr (tab_pos hT))
        have Hset := Lib.hid (map_set_take (headOf M) l k hkl (.int .u8 0))
        rw [← hx] at Hset
        have Hat := Lib.hid (map_at_take (headOf M) l k hkl (.int .u8 0))
        have Hown := Lib.hid hown
        clear hcells hx hown hlt
        generalize headOf M x = y at hh Hset
        go_wp2_with (go_at_call 27; refine hh.mono ?_; rintro e w3 ⟨rfl, hb3⟩; have Hown3 := Lib.hid (owns_below Hown.out hb3); have hn3 := hr.trans (hb3.mono hr.size); have hcf := Hown3.out.frozenAt k; have hcc := (Hown3.out.cellAt k (by omega)).trans Hat.out)
        go_roundw
        case rel =>
          refine ⟨k + 1, by omega, by go_num, ?_, hn3.setCell (p := ⟨w.heap.size, k, none⟩) (Nat.le_refl _) _⟩
          rw [← Hset.out]; exact (Hown3.out.stored k (u8v y)).1
        case measure => simp [intOf]; omega
    · obtain rfl : k = n' := by omega
      have hd : decide ((k : Int) < k) = false := by simp
      have ht : l.take k = l := List.take_of_length_le (by rw [Hn.out]; exact Nat.le_refl _)
      rw [ht, ← Hn.out, Nat.sub_self, List.replicate_zero, List.append_nil] at hown
      clear hcells ht
      go_wp2_with fail
      go_ret
      refine ⟨_, rfl, ?_, hr⟩
      rw [List.length_map, List.map_map, ← Hn.out]; exact hown
end Go.Proofs.YtnhlopbpggdneaaDoor
