/- The walk of the law on lists: a set is made of its list, in whatever order; its least is the list's first. -/
import Derived.Test.YtebodglhcnpfeaaDoorSetAwake
import Derived.Test.YtebodglhcnpfeaaDoorEq
import Derived.Deep.RegionWith
import Derived.Deep.RegionHeld3
import Derived.BigQuiet
import Derived.Deep.QuietTactic
namespace Go.Proofs.YtebodglhcnpfeaaDoor
open Go.RowKit

theorem setOf_elems (s : BitVec 256) : setOf (elems s) = s := by
  apply BitVec.eq_of_getLsbD_eq
  intro b hb
  rw [setOf_bit _ _ hb, Bool.eq_iff_iff, decide_eq_true_eq, mem_elems]
  exact ⟨fun h => h.2, fun h => ⟨hb, h⟩⟩
theorem setOf_same (l m : List Nat) (h : ∀ x, x ∈ l ↔ x ∈ m) : setOf l = setOf m := by
  apply BitVec.eq_of_getLsbD_eq
  intro b hb
  rw [setOf_bit _ _ hb, setOf_bit _ _ hb, Bool.eq_iff_iff, decide_eq_true_eq, decide_eq_true_eq]
  exact h b
/-- the list turned by t places -/
def turned (l : List Nat) (t : Nat) : List Nat := (List.range l.length).map fun i => l.getD ((i + t) % l.length) 0
theorem turned_length (l : List Nat) (t : Nat) : (turned l t).length = l.length := by simp [turned]
theorem mem_turned (l : List Nat) (t : Nat) (x : Nat) : x ∈ turned l t ↔ x ∈ l := by
  unfold turned
  simp only [List.mem_map, List.mem_range]
  constructor
  · rintro ⟨i, hi, rfl⟩
    have hm : (i + t) % l.length < l.length := Nat.mod_lt _ (by omega)
    rw [List.getD_eq_getElem?_getD, List.getElem?_eq_getElem hm]
    exact List.getElem_mem _
  · intro h
    obtain ⟨j, hj, rfl⟩ := List.getElem_of_mem h
    have ht : t % l.length < l.length := Nat.mod_lt _ (by omega)
    refine ⟨(j + (l.length - t % l.length)) % l.length, Nat.mod_lt _ (by omega), ?_⟩
    have e : ((j + (l.length - t % l.length)) % l.length + t) % l.length = j := by
      rw [Nat.mod_add_mod]
      have h1 : j + (l.length - t % l.length) + t = j + l.length * (1 + t / l.length) := by
        have := Nat.div_add_mod t l.length
        rw [Nat.mul_add]
        omega
      rw [h1, Nat.add_mul_mod_self_left, Nat.mod_eq_of_lt hj]
    rw [e, List.getD_eq_getElem?_getD, List.getElem?_eq_getElem hj]
    rfl
theorem turned_take_succ (l : List Nat) (t k : Nat) (hk : k < l.length) : (turned l t).take (k + 1) = (turned l t).take k ++ [l.getD ((k + t) % l.length) 0] := by
  rw [List.take_succ_eq_append_getElem (by rw [turned_length]; exact hk)]
  simp [turned]
theorem eql_same (s : BitVec 256) (w : World) : (Op.equalIn 10000 25 (SV s) (SV s)).run Tryd.prog w = .ok true w := by
  rw [eql_set]; simp
set_option maxHeartbeats 2000000 in
theorem list_law_none (s : BitVec 256) (turn : Int) (h0 : elems s = []) (w : World) (hT : TabAt 0 Lib.deBruijn64tab w) :
    Calls Tryd.prog 7 #[SV s, .int .i64 turn] w fun e w' => e = .returned (.bool true) ∧ Below w.heap.size w w' := by
  have hl := list_at s
  rw [h0] at hl
  have hs : setOf [] = s := by rw [← h0]; exact setOf_elems s
  have ho := fun w => of_any none 0 0 [] w ⟨rfl, by simp, by decide, .inl rfl⟩
  rw [hs] at ho
  have he := eql_same s
  clear hs h0
  have hT0 := tab_alloc hT
  go_enter Tryd.func7, Tryd.ntmps7
  go_wp2_with fail
  refine (awake_any _ (hT0 _)).mono ?_
  rintro e w1 ⟨rfl, hb1⟩
  have hT1 := tab_below (hT0 _) hb1 (by simp)
  have hc1 := (bcell hb1).1
  have hz1 : w.heap.size < w1.heap.size := by have := hb1.size; simp at this; omega
  go_wp2_with fail
  refine (hl _ hT1).mono ?_
  rintro e w2 ⟨a, cap, rfl, hb2, _⟩
  have hc2 := (bcell hb2).1
  have hz2 : w.heap.size < w2.heap.size := by have := hb2.size; omega
  go_wp2_with fail
  go_region_with (first
    | (go_at_call 9; refine (ho _).mono ?_; rintro e w3 ⟨rfl, hb3⟩; have hc3 : ∀ o, w3.cell? ⟨w.heap.size, o, none⟩ = w2.cell? ⟨w.heap.size, o, none⟩ := fun o => hb3.cell (p := ⟨w.heap.size, o, none⟩) hz2))
  all_goals
    go_wp2_with fail
    go_ret
    refine ⟨rfl, ?_⟩
    refine Below.trans (Below.drew (Below.trans (Below.trans ?_ (hb1.mono (by simp))) (hb2.mono (by omega)))) (hb3.mono (Nat.le_of_lt hz2))
    repeat (first | exact Below.refl _ _ | refine Below.drew ?_ | refine Below.alloc ?_ (by simp; try omega) _)
set_option maxHeartbeats 2000000 in
theorem list_law_neg (s : BitVec 256) (turn : Int) (h0 : elems s ≠ []) (ht : turn < 0) (w : World) (hT : TabAt 0 Lib.deBruijn64tab w) :
    Calls Tryd.prog 7 #[SV s, .int .i64 turn] w fun e w' => e = .returned (.bool true) ∧ Below w.heap.size w w' := by
  have hl := list_at s
  have hlen : 0 < (elems s).length := List.length_pos_iff.2 h0
  have hz : (((elems s).length : Int) == 0) = false := by rw [beq_eq_false_iff_ne]; omega
  have hd : decide (turn < 0) = true := by simp; omega
  have hd2 : decide (((elems s).length : Int) > 0) = true := by simp; omega
  clear h0
  have hT0 := tab_alloc hT
  go_enter Tryd.func7, Tryd.ntmps7
  go_wp2_with fail
  refine (awake_any _ (hT0 _)).mono ?_
  rintro e w1 ⟨rfl, hb1⟩
  have hT1 := tab_below (hT0 _) hb1 (by simp)
  have hc1 := (bcell hb1).1
  have hz1 : w.heap.size < w1.heap.size := by have := hb1.size; simp at this; omega
  go_wp2_with fail
  refine (hl _ hT1).mono ?_
  rintro e w2 ⟨a, cap, rfl, hb2, _⟩
  go_wp2_with fail
  go_quiet (fail)
  go_wp2_with fail
  go_ret
  refine ⟨rfl, below_drewN (Below.trans (Below.trans ?_ (hb1.mono (by simp))) (hb2.mono (by omega))) _⟩
  repeat (first | exact Below.refl _ _ | refine Below.drew ?_ | refine Below.alloc ?_ (by simp; try omega) _)
theorem bytes_drew {w : World} {a : Option Addr} {n cap : Nat} {l : List Nat} (h : BytesAt w a n cap l) : BytesAt w.drew a n cap l := h
/-- what the turning loop holds -/
def Turning (w2 : World) (l : List Nat) (T k : Nat) (v : Value) (wr : World) : Prop :=
  wr.ownsRow w2.heap.size 5 1 v ((turned l T).take k).length (((turned l T).take k).map u8v) ∧ Below w2.heap.size w2 wr
theorem turning_step {w2 wr w' : World} {l : List Nat} {T k : Nat} {v v' : Value} {o : Obj} (hk : k < l.length) (h : Turning w2 l T k v wr) (hown : w'.ownsRow w2.heap.size 5 1 v' (((turned l T).take k).length + 1) (((turned l T).take k).map u8v ++ [u8v (l.getD ((k + T) % l.length) 0)]))
    (hg : (wr.alloc o).grownBy w' v.ownBlock) : Turning w2 l T (k + 1) v' w' := by
  refine ⟨?_, (h.2.alloc h.2.size o).grown hg (by have := h.2.size; simp; omega) (fun k hk => (h.1.lt k hk).1)⟩
  rw [turned_take_succ l T k hk, List.map_append, List.length_append]
  exact hown
set_option maxHeartbeats 2000000 in
theorem list_law_pos (s : BitVec 256) (turn : Int) (h0 : elems s ≠ []) (ht : 0 ≤ turn) (ht2 : turn ≤ 9223372036854775807) (w : World) (hT : TabAt 0 Lib.deBruijn64tab w) :
    Calls Tryd.prog 7 #[SV s, .int .i64 turn] w fun e w' => e = .returned (.bool true) ∧ Below w.heap.size w w' := by
  have hl := list_at s
  have hlen : 1 ≤ (elems s).length := List.length_pos_iff.2 h0
  have hlen2 := elems_length_le s
  obtain ⟨x0, xs, hx⟩ : ∃ x xs, elems s = x :: xs := by cases h : elems s with | nil => exact absurd h h0 | cons x xs => exact ⟨x, xs, rfl⟩
  have hleast : ∀ w, TabAt 0 Lib.deBruijn64tab w → Calls Tryd.prog 11 #[SV s] w fun e w' => e = .returned (.tuple #[.int .u8 (x0 : Int), .bool true]) ∧ Below w.heap.size w w' := by
    intro w h
    have := least_any s w h
    rw [hx] at this
    exact this
  have hx0 : (elems s).getD 0 0 = x0 := by rw [hx]; rfl
  have hz : (((elems s).length : Int) == 0) = false := by rw [beq_eq_false_iff_ne]; omega
  have hd : decide (turn < 0) = false := by simp; omega
  have hlenc := len_any s
  have he := eql_same s
  have hsame : ∀ t, setOf (turned (elems s) t) = s := fun t => by rw [setOf_same _ (elems s) (mem_turned _ t)]; exact setOf_elems s
  have hlt : ∀ x ∈ elems s, x < 256 := fun x hx => ((mem_elems s x).1 hx).1
  obtain ⟨i0, hi, hz0, hz1, hz2⟩ := info_parts info_u8
  obtain ⟨T, hTT⟩ : ∃ T : Nat, turn % ((elems s).length : Int) = (T : Int) := ⟨(turn % ((elems s).length : Int)).toNat, by have := Int.emod_nonneg turn (show ((elems s).length : Int) ≠ 0 by omega); omega⟩
  have hTlt : T < (elems s).length := by have := Int.emod_lt_of_pos turn (show (0 : Int) < ((elems s).length : Int) by omega); omega
  clear h0 hx
  have hT0 := tab_alloc hT
  go_enter Tryd.func7, Tryd.ntmps7
  go_wp2_with fail
  refine (awake_any _ (hT0 _)).mono ?_
  rintro e w1 ⟨rfl, hb1⟩
  have hT1 := tab_below (hT0 _) hb1 (by simp)
  have hc1 := (bcell hb1).1
  have hy1 : w.heap.size < w1.heap.size := by have := hb1.size; simp at this; omega
  go_wp2_with fail
  refine (hl _ hT1).mono ?_
  rintro e w2 ⟨a, cap, rfl, hb2, hbytes⟩
  have hT2 := tab_below hT1 hb2 (tab_pos hT1)
  have hbW := hb1.trans (hb2.mono hb1.size)
  have hst : Turning w2 (elems s) T 0 (.slice none 0 0) w2 := ⟨World.ownsRow_nil _ _ _ _, Below.refl _ _⟩
  go_wp2_with fail
  go_loopw [6, 7] (fun v i wr => ∃ k : Nat, k ≤ (elems s).length ∧ i = .int .i64 k ∧ Turning w2 (elems s) T k v wr) (fun _ i _ => (elems s).length - (intOf i).toNat)
  case atStart => exact ⟨0, by omega, rfl, hst⟩
  case round =>
    clear hst
    obtain ⟨k, hk, rfl, hr⟩ := hrel
    by_cases hkl : k < (elems s).length
    · have hd : decide (k < (elems s).length) = true := by simp; omega
      obtain ⟨J, hJ⟩ : ∃ J, J = (k + T) % (elems s).length := ⟨_, rfl⟩
      have hJlt : J < (elems s).length := by rw [hJ]; exact Nat.mod_lt _ (by omega)
      obtain ⟨_, _, hmax, hcs⟩ := hbytes wr hr.2
      have hcell : ∃ g off, a = some ⟨g, off, none⟩ ∧ (elems s).length ≤ cap ∧ wr.cell? ⟨g, off + J, none⟩ = some (u8v ((elems s).getD J 0)) := by
        rcases hcs with h | ⟨g, off, h1, h2, _, h3⟩
        · omega
        · exact ⟨g, off, h1, h2, h3 J hJlt⟩
      obtain ⟨g, off, rfl, hcap, hcell⟩ := hcell
      obtain ⟨x, hxv⟩ : ∃ x, x = (elems s).getD J 0 := ⟨_, rfl⟩
      rw [← hxv] at hcell
      have hIJ : ((k : Int) + (T : Int)) % ((elems s).length : Int) = (J : Int) := by rw [hJ]; simp
      have htl : ((turned (elems s) T).take k).length ≤ 256 := by have := List.length_take_le k (turned (elems s) T); omega
      have hown := hr.1
      have hstep := fun (w' : World) (v' : Value) (o : Obj) => turning_step (w' := w') (v' := v') (o := o) hkl hr
      rw [← hJ, ← hxv] at hstep
      have hsz := hr.2.size
      have hcell' : wr.cell? ⟨g, off + J, none⟩ = some (.int .u8 (x : Int)) := hcell
      generalize (turned (elems s) T).take k = pre at hown hstep htl
      clear hcs hJ hxv hx0 hsame hr hcell hlt hbytes
      go_wp2_with (at_builtin; refine wpList_append_own _ rfl _ _ 32 rfl w2.heap.size 5 i0 (.int .u8 0) 1 1 Tryd.underlying32 hi hz0 hz1 hz2 rfl (by decide) _ _ _ rfl (hown.alloc _) ⟨wr.heap.size, 0, none⟩ 1 1 [u8v x] rfl rfl ?c1 ?c2 ?c3 ?c4 ?c5 ?_)
      case c1 => first | exact cell_one_new _ _ _ | (intro j u h; exact h)
      case c2 => first | rfl | (intro u hu; simp at hu; subst hu; rfl)
      case c3 => unfold maxLen; omega
      case c4 => omega
      case c5 => first | omega | (simp; omega)
      intro v' w' hown' hgrow _
      have hfin := hstep w' v' _ hown' hgrow
      clear hown hown' hgrow hstep
      go_wp2_with fail
      go_roundw
      case rel => exact ⟨k + 1, by omega, by go_num, hfin⟩
      case measure => simp [intOf]; omega
    · have hd : decide (k < (elems s).length) = false := by simp; omega
      obtain rfl : k = (elems s).length := by omega
      have ht : (turned (elems s) T).take (elems s).length = turned (elems s) T := List.take_of_length_le (by rw [turned_length]; exact Nat.le_refl _)
      have hown : wr.ownsRow w2.heap.size 5 1 u6 (turned (elems s) T).length ((turned (elems s) T).map u8v) := by have := hr.1; rw [ht] at this; exact this
      obtain ⟨a6, c6, rfl⟩ := owns_form hown
      have hltT : ∀ x ∈ turned (elems s) T, x < 256 := fun x hx => hlt x ((mem_turned _ _ _).1 hx)
      have hread := fun w' => bytesAt_of_owns (w' := w') hown hltT
      have hbr := hr.2
      have hT3 := tab_below hT2 hr.2 (tab_pos hT2)
      have hbE := hbW.trans (hr.2.mono hbW.size)
      have hcE : ∀ o, wr.cell? ⟨w.heap.size, o, none⟩ = (w.alloc _).cell? ⟨w.heap.size, o, none⟩ := fun o => hbE.cell (p := ⟨w.heap.size, o, none⟩) (by simp)
      have hsr : w.heap.size < wr.heap.size := by have := hr.2.size; have := hb2.size; omega
      have ho := fun w h => of_any a6 (turned (elems s) T).length c6 (turned (elems s) T) w h
      rw [hsame T] at ho
      clear hr hsame ht hown hltT hlt
      go_wp2_with fail
      refine (hleast _ hT3).mono ?_
      rintro e w4 ⟨rfl, hb4⟩
      have hc4 : ∀ o, w4.cell? ⟨w.heap.size, o, none⟩ = wr.cell? ⟨w.heap.size, o, none⟩ := fun o => hb4.cell (p := ⟨w.heap.size, o, none⟩) hsr
      have hs4 : w.heap.size < w4.heap.size := by have := hb4.size; omega
      have hr4 := hread w4 hb4
      have hb24 := hbr.trans (hb4.mono hbr.size)
      go_wp2_with fail
      obtain ⟨g, off, rfl, hcap⟩ : ∃ g off, a = some ⟨g, off, none⟩ ∧ (elems s).length ≤ cap := by
        rcases (hbytes w4 hb24).2.2.2 with h | ⟨g, off, h1, h2, _, _⟩
        · omega
        · exact ⟨g, off, h1, h2⟩
      have hfirst : ∀ w', Below w2.heap.size w2 w' → w'.cell? ⟨g, off, none⟩ = some (.int .u8 (x0 : Int)) := by
        intro w' h
        rcases (hbytes w' h).2.2.2 with h | ⟨g', off', h1, h2, _, h3⟩
        · omega
        · cases h1
          have := h3 0 (by omega)
          rw [hx0] at this
          exact this
      have hpos : (0 : Nat) < (elems s).length := by omega
      clear hbytes hleast hx0 hTT
      have hcw : ∀ o, w4.cell? ⟨w.heap.size, o, none⟩ = (w.alloc _).cell? ⟨w.heap.size, o, none⟩ := fun o => (hc4 o).trans (hcE o)
      have snap : ∀ w', Below w4.heap.size w4 w' → w'.cell? ⟨w.heap.size, 0, none⟩ = some (.int .u64 (word s 0)) ∧ w'.cell? ⟨w.heap.size, 1, none⟩ = some (.int .u64 (word s 1)) ∧ w'.cell? ⟨w.heap.size, 2, none⟩ = some (.int .u64 (word s 2)) ∧ w'.cell? ⟨w.heap.size, 3, none⟩ = some (.int .u64 (word s 3)) ∧ w'.cell? ⟨g, off, none⟩ = some (.int .u8 (x0 : Int)) ∧ BytesAt w' a6 (turned (elems s) T).length c6 (turned (elems s) T) := by
        intro w' h
        have hq : ∀ o, w'.cell? ⟨w.heap.size, o, none⟩ = (w.alloc _).cell? ⟨w.heap.size, o, none⟩ := fun o => (h.cell (p := ⟨w.heap.size, o, none⟩) hs4).trans (hcw o)
        exact ⟨by rw [hq]; simp, by rw [hq]; simp, by rw [hq]; simp, by rw [hq]; simp, hfirst w' (hb24.trans (h.mono hb24.size)), hread w' (hb4.trans (h.mono hb4.size))⟩
      clear hread hfirst hr4 hcw hc4 hcE
      go_region_held3 (fun w' => w'.cell? ⟨w.heap.size, 0, none⟩ = some (.int .u64 (word s 0)) ∧ w'.cell? ⟨w.heap.size, 1, none⟩ = some (.int .u64 (word s 1)) ∧ w'.cell? ⟨w.heap.size, 2, none⟩ = some (.int .u64 (word s 2)) ∧ w'.cell? ⟨w.heap.size, 3, none⟩ = some (.int .u64 (word s 3)) ∧ w'.cell? ⟨g, off, none⟩ = some (.int .u8 (x0 : Int)) ∧ BytesAt w' a6 (turned (elems s) T).length c6 (turned (elems s) T)) (first | exact snap _ hb47 | exact snap _ hb46 | exact snap _ (Below.refl _ _).drew | exact snap _ (Below.refl _ _)) (first
        | (go_at_call 9; refine (ho _ (snap _ (Below.refl _ _).drew).2.2.2.2.2).mono ?_; rintro e w6 ⟨rfl, hb6⟩; have hb46 := (Below.refl w4.heap.size w4).drew.trans hb6)
        | (go_at_call 14; refine (hlenc _).mono ?_; rintro e w7 ⟨rfl, hb7⟩; have hb47 := hb46.trans (hb7.mono hb46.size)))
      all_goals
        go_wp2_with fail
        go_ret
        refine ⟨rfl, ?_⟩
        refine Below.trans (Below.trans (Below.trans ?_ (hbE.mono (by simp))) (hb4.mono (by omega))) (hb47.mono (by omega))
        repeat (first | exact Below.refl _ _ | refine Below.drew ?_ | refine Below.alloc ?_ (by simp; try omega) _)
theorem bytesetList_walk (s : BitVec 256) (turn : Int) (wf : (Lit.int .i64 turn).wf = true) (w : World) (hT : TabAt 0 Lib.deBruijn64tab w) :
    Calls Tryd.prog 7 #[SV s, .int .i64 turn] w fun e w' => e = .returned (.bool true) ∧ Below w.heap.size w w' := by
  have h' : -9223372036854775808 ≤ turn ∧ turn ≤ 9223372036854775807 := by simpa [Lit.wf, IntKind.min, IntKind.max, IntKind.signed, IntKind.bits] using wf
  by_cases h0 : elems s = []
  · exact list_law_none s turn h0 w hT
  · by_cases ht : turn < 0
    · exact list_law_neg s turn h0 ht w hT
    · exact list_law_pos s turn h0 (by omega) h'.2 w hT
end Go.Proofs.YtebodglhcnpfeaaDoor
