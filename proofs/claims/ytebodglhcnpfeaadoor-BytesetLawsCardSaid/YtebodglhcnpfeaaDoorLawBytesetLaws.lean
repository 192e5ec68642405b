/- The walk of the laws on sets: joined, met, taken away, turned; made again of their runs; counted; ordered. -/
import Derived.Test.YtebodglhcnpfeaaDoorLawBytesetRuns
import Derived.Test.YtebodglhcnpfeaaDoorLawBytesetList
import Derived.Test.YtebodglhcnpfeaaDoorLater
namespace Go.Proofs.YtebodglhcnpfeaaDoor
open Go.RowKit

theorem cmpNat_neg : ∀ (a b : List Nat), cmpNat b a = - cmpNat a b
  | [], [] => rfl
  | [], _ :: _ => rfl
  | _ :: _, [] => rfl
  | a :: ar, b :: br => by
    unfold cmpNat
    by_cases h1 : a < b
    · have h2 : ¬ b < a := by omega
      simp [h1, h2]
    · by_cases h2 : b < a
      · simp [h1, h2]
      · simp [h1, h2, cmpNat_neg ar br]
theorem cmpNat_zero : ∀ (a b : List Nat), cmpNat a b = 0 ↔ a = b
  | [], [] => by simp [cmpNat]
  | [], _ :: _ => by simp [cmpNat]
  | _ :: _, [] => by simp [cmpNat]
  | a :: ar, b :: br => by
    have ih := cmpNat_zero ar br
    unfold cmpNat
    by_cases h1 : a < b
    · have : a ≠ b := by omega
      simp [h1, this]
    · by_cases h2 : b < a
      · have : a ≠ b := by omega
        simp [h1, h2, this]
      · have : a = b := by omega
        simp [this, ih]
theorem elems_inj (s t : BitVec 256) (h : elems s = elems t) : s = t := by rw [← setOf_elems s, h, setOf_elems]
theorem filter_not (p q : Nat → Bool) : ∀ (l : List Nat), (∀ x ∈ l, q x = !p x) → (l.filter p).length + (l.filter q).length = l.length
  | [], _ => rfl
  | x :: l, h => by
    have ih := filter_not p q l (fun y hy => h y (by simp [hy]))
    have hx := h x (by simp)
    cases e : p x <;> simp [List.filter_cons, hx, e] <;> omega
theorem filter_or_and (p q : Nat → Bool) : ∀ (l : List Nat), (l.filter (fun x => p x || q x)).length + (l.filter (fun x => p x && q x)).length = (l.filter p).length + (l.filter q).length
  | [] => rfl
  | x :: l => by
    have ih := filter_or_and p q l
    cases e1 : p x <;> cases e2 : q x <;> simp [List.filter_cons, e1, e2] <;> omega
theorem elems_not_length (s : BitVec 256) : (elems s).length + (elems (~~~s)).length = 256 := by
  unfold elems
  rw [filter_not s.getLsbD (~~~s).getLsbD]
  · simp
  · intro x hx
    rw [List.mem_range] at hx
    simp [hx]
theorem elems_or_and_length (s t : BitVec 256) : (elems (s ||| t)).length + (elems (s &&& t)).length = (elems s).length + (elems t).length := by
  unfold elems
  rw [← filter_or_and s.getLsbD t.getLsbD]
  congr 3
  · funext x; simp
  · funext x; simp
theorem setOf_append (a b : List Nat) : setOf (a ++ b) = setOf a ||| setOf b := by
  apply BitVec.eq_of_getLsbD_eq
  intro x hx
  rw [BitVec.getLsbD_or, setOf_bit _ _ hx, setOf_bit _ _ hx, setOf_bit _ _ hx, Bool.eq_iff_iff]
  simp
theorem not_or' (s t : BitVec 256) : ~~~(s ||| t) = ~~~s &&& ~~~t := by
  apply BitVec.eq_of_getLsbD_eq; intro x hx; simp [hx]
theorem and_or' (s t d : BitVec 256) : s &&& (t ||| d) = (s &&& t) ||| (s &&& d) := by
  apply BitVec.eq_of_getLsbD_eq; intro x hx; simp [hx, Bool.and_or_distrib_left]
theorem not_not' (s : BitVec 256) : ~~~(~~~s) = s := by simp
theorem runs_expand (s : BitVec 256) : setOf (expand (runsOf (elems s))) = s := by rw [(runsOf_good (elems s) (elems_sorted s)).2, setOf_elems]
theorem eql_of (s t : BitVec 256) (h : s = t) (w : World) : (Op.equalIn 10000 25 (SV s) (SV t)).run Tryd.prog w = .ok true w := by
  rw [eql_set, decide_eq_true h]
theorem eql_not (s t : BitVec 256) (h : s ≠ t) (w : World) : (Op.equalIn 10000 25 (SV s) (SV t)).run Tryd.prog w = .ok false w := by
  rw [eql_set, decide_eq_false h]
/-- what the law's loop holds: block M has the runs gathered so far -/
def Joining (W : World) (M : Nat) (l : List (Nat × Nat)) (k : Nat) (wr : World) : Prop := SetAt wr M (setOf (expand (l.take k))) ∧ Below M W wr
theorem setAt_start' (w : World) (s : BitVec 256) : SetAt (w.alloc (.cells #[.int .u64 (word s 0), .int .u64 (word s 1), .int .u64 (word s 2), .int .u64 (word s 3)] 25 (0, 0))) w.heap.size s := by
  unfold SetAt World.alloc
  simp
theorem setAt_below {w w' : World} {b B : Nat} {s : BitVec 256} (h : SetAt w b s) (hb : Below B w w') (hB : b < B) : SetAt w' b s := by
  unfold SetAt at *
  rw [hb.block b hB]; exact h
theorem setAt_four {w : World} {b : Nat} {s : BitVec 256} (t : BitVec 256) (h : SetAt w b s) :
    SetAt ((((w.setCell ⟨b, 0, none⟩ (.int .u64 (word t 0))).setCell ⟨b, 1, none⟩ (.int .u64 (word t 1))).setCell ⟨b, 2, none⟩ (.int .u64 (word t 2))).setCell ⟨b, 3, none⟩ (.int .u64 (word t 3))) b t := by
  unfold SetAt at *
  simp only [World.setCell, Array.getElem?_modify, if_true, h, Option.map_some]
  rfl
/-- all that was there is as it was, but for block M -/
structure Kept (M : Nat) (w w' : World) : Prop where
  os : w'.os = w.os
  tape : w'.tape = w.tape
  output : w'.output = w.output
  size : w.heap.size ≤ w'.heap.size
  block : ∀ k, k < w.heap.size → k ≠ M → w'.heap[k]? = w.heap[k]?
theorem Kept.refl (M : Nat) (w : World) : Kept M w w := ⟨rfl, rfl, rfl, Nat.le_refl _, fun _ _ _ => rfl⟩
theorem Kept.below {M : Nat} {w w' w2 : World} (h : Kept M w w') (hb : Below w'.heap.size w' w2) : Kept M w w2 :=
  ⟨hb.os.trans h.os, hb.tape.trans h.tape, hb.output.trans h.output, Nat.le_trans h.size hb.size, fun k hk hM => (hb.block k (by have := h.size; omega)).trans (h.block k hk hM)⟩
theorem Kept.set {M : Nat} {w w' : World} (h : Kept M w w') (o : Nat) (u : Value) : Kept M w (w'.setCell ⟨M, o, none⟩ u) :=
  ⟨h.os, h.tape, h.output, by simpa [World.setCell] using h.size, fun k hk hM => (Below.heap_setCell _ _ _ _ hM).trans (h.block k hk hM)⟩
theorem Kept.cell {M : Nat} {w w' : World} (h : Kept M w w') (p : Addr) (hp : p.block < w.heap.size) (hM : p.block ≠ M) : w'.cell? p = w.cell? p := World.cell?_of_block (w := w) (h.block p.block hp hM)
theorem Kept.setAt {M : Nat} {w w' : World} {b : Nat} {s : BitVec 256} (h : Kept M w w') (hs : SetAt w b s) (hb : b < w.heap.size) (hM : b ≠ M) : SetAt w' b s := by
  unfold SetAt at *
  rw [h.block b hb hM]; exact hs
theorem Kept.toBelow {M B : Nat} {w w' : World} (h : Kept M w w') (hB : B ≤ M ∧ B ≤ w.heap.size) : Below B w w' :=
  ⟨h.os, h.tape, h.output, h.size, fun k hk => h.block k (by omega) (by omega)⟩
def Joined (M : Nat) (w3 : World) (l : List (Nat × Nat)) (k : Nat) (wr : World) : Prop := SetAt wr M (setOf (expand (l.take k))) ∧ Kept M w3 wr
theorem joined_step {M : Nat} {w3 wr : World} {l : List (Nat × Nat)} {k : Nat} (h : Joined M w3 l k wr) (hk : k < l.length) (w6 : World) (hb : Below wr.heap.size wr w6) (hM : M < wr.heap.size) (z : BitVec 256)
    (hz : z = setOf (expand (l.take k)) ||| setOf (upTo (l.getD k (0, 0)).1 (l.getD k (0, 0)).2)) :
    Joined M w3 l (k + 1) ((((w6.setCell ⟨M, 0, none⟩ (.int .u64 (word z 0))).setCell ⟨M, 1, none⟩ (.int .u64 (word z 1))).setCell ⟨M, 2, none⟩ (.int .u64 (word z 2))).setCell ⟨M, 3, none⟩ (.int .u64 (word z 3))) := by
  have e : setOf (expand (l.take (k + 1))) = z := by
    rw [hz, List.take_succ_eq_append_getElem hk, expand_append, expand_one, setOf_append, List.getD_eq_getElem?_getD, List.getElem?_eq_getElem hk]; rfl
  refine ⟨?_, ((((h.2.below hb).set _ _).set _ _).set _ _).set _ _⟩
  rw [e]
  exact setAt_four z (setAt_below h.1 hb hM)
set_option maxRecDepth 100000 in
set_option maxHeartbeats 4000000 in
theorem laws_front (s t d : BitVec 256) (w : World) (hT : TabAt 0 Lib.deBruijn64tab w) :
    Calls Tryd.prog 5 #[SV s, SV t, SV d] w fun e w' => e = .returned (.bool true) ∧ Below w.heap.size w w' := by
  obtain ⟨f1, f2, _, _⟩ := runs_facts s
  obtain ⟨l, hl⟩ : ∃ l, l = runsOf (elems s) := ⟨_, rfl⟩
  have hexp := runs_expand s
  have hruns := runs_at s
  rw [← hl] at f1 f2 hruns hexp
  clear hl f2
  have ho := fun w => of_any none 0 0 [] w ⟨rfl, by simp, by decide, .inl rfl⟩
  have hT0 := fun o1 o2 o3 => tab_alloc (tab_alloc (tab_alloc hT o1) o2) o3
  go_enter Tryd.func5, Tryd.ntmps5
  go_wp2_with fail
  refine (awake_any _ (hT0 _ _ _)).mono ?_
  rintro e w1 ⟨rfl, hb1⟩
  have hT1 := tab_below (hT0 _ _ _) hb1 (by simp)
  have hs1 : w.heap.size + 3 ≤ w1.heap.size := by have := hb1.size; simp at this; omega
  have A1 : SetAt w1 w.heap.size s := setAt_below (setAt_alloc (setAt_alloc (setAt_start' w s) _) _) hb1 (by simp; omega)
  have B1 : SetAt w1 (w.heap.size + 1) t := setAt_below (setAt_alloc (by simpa using setAt_start' (w.alloc _) t) _) hb1 (by simp)
  have D1 : SetAt w1 (w.heap.size + 1 + 1) d := setAt_below (by simpa using setAt_start' ((w.alloc _).alloc _) d) hb1 (by simp)
  have hbw1 : Below w.heap.size w w1 := by
    refine Below.trans ?_ (hb1.mono (by simp; omega))
    repeat (first | exact Below.refl _ _ | refine Below.alloc ?_ (by simp; try omega) _)
  clear hb1
  go_wp2_with fail
  refine (ho _).mono ?_
  rintro e w2 ⟨rfl, hb2⟩
  have hT2 := tab_below hT1 hb2 (tab_pos hT1)
  have A2 := setAt_below A1 hb2 (by omega)
  have B2 := setAt_below B1 hb2 (by omega)
  have D2 := setAt_below D1 hb2 (by omega)
  have hs2 : w.heap.size + 3 ≤ w2.heap.size := by have := hb2.size; omega
  have hbw2 := hbw1.trans (hb2.mono (by omega))
  clear A1 B1 D1 hbw1 hb2 hs1
  have a0 := A2.cell 0 (by decide)
  have a1 := A2.cell 1 (by decide)
  have a2 := A2.cell 2 (by decide)
  have a3 := A2.cell 3 (by decide)
  have hq : w.heap.size < w2.heap.size := by omega
  go_wp2_with fail
  have hT3 := tab_alloc hT2
  refine (hruns _ (hT3 _)).mono ?_
  rintro e w3 ⟨a, cap, rfl, hb3, hl256, hcells⟩
  have hset3 := setAt_below (setAt_start' w2 (setOf [])) hb3 (by simp)
  have hT4 := tab_below (hT3 _) hb3 (by simp)
  have A3 := setAt_below (setAt_alloc A2 _) hb3 (by simp; omega)
  have B3 := setAt_below (setAt_alloc B2 _) hb3 (by simp; omega)
  have D3 := setAt_below (setAt_alloc D2 _) hb3 (by simp; omega)
  have hs3 : w2.heap.size + 1 ≤ w3.heap.size := by have := hb3.size; simp at this; omega
  have hbw3 := (hbw2.alloc (by omega) _).trans (hb3.mono (by simp; omega))
  clear a0 a1 a2 a3 A2 B2 D2 hbw2 hb3 hT3 hT2 hT1
  obtain ⟨M, hM⟩ : ∃ M, M = w2.heap.size := ⟨_, rfl⟩
  have hM' := Lib.hid hM
  rw [← hM] at hset3 hs3 hq hs2
  rw [← hM]
  clear hM
  have hcells' : ∀ k, k < l.length → ∃ g, a = some ⟨g, 0, none⟩ ∧ ∀ k, k < l.length → M < g ∧ g < w3.heap.size ∧ l.length ≤ cap ∧ w3.cell? ⟨g, k * 2, none⟩ = some (.int .u8 ((l.getD k (0, 0)).1 : Int)) ∧ w3.cell? ⟨g, k * 2 + 1, none⟩ = some (.int .u8 ((l.getD k (0, 0)).2 : Int)) := by
    intro k hk
    obtain ⟨g, rfl, _⟩ := hcells k hk
    refine ⟨g, rfl, fun k hk => ?_⟩
    obtain ⟨g', e, h0, h⟩ := hcells k hk
    cases e
    simp at h0
    exact ⟨by rw [hM'.out]; omega, h⟩
  clear hcells hM'
  have hst : Joined M w3 l 0 w3 := ⟨hset3, Kept.refl M w3⟩
  go_wp2_with fail
  go_loopw [9] (fun i wr => ∃ k : Nat, k ≤ l.length ∧ i = .int .i64 k ∧ Joined M w3 l k wr) (fun i _ => l.length - (intOf i).toNat)
  case atStart => exact ⟨0, by omega, rfl, hst⟩
  case round =>
    clear hst hset3
    obtain ⟨k, hk, rfl, hj⟩ := hrel
    by_cases hkl : k < l.length
    · obtain ⟨g, rfl, hg⟩ := hcells' k hkl
      obtain ⟨hMg, hg1, hcap, c0, c1⟩ := hg k hkl
      obtain ⟨hle, hhi⟩ := f1 k hkl
      have hstep := joined_step hj hkl
      obtain ⟨lo, hlo⟩ : ∃ lo, lo = (l.getD k (0, 0)).1 := ⟨_, rfl⟩
      obtain ⟨hi, hhi'⟩ : ∃ hi, hi = (l.getD k (0, 0)).2 := ⟨_, rfl⟩
      rw [← hlo, ← hhi'] at hle hstep
      rw [← hhi'] at hhi c1
      rw [← hlo] at c0
      have d0 : wr.cell? ⟨g, k * 2, none⟩ = some (.int .u8 (lo : Int)) := by rw [hj.2.cell ⟨g, k * 2, none⟩ hg1 (by simp; omega)]; exact c0
      have d1 : wr.cell? ⟨g, k * 2 + 1, none⟩ = some (.int .u8 (hi : Int)) := by rw [hj.2.cell ⟨g, k * 2 + 1, none⟩ hg1 (by simp; omega)]; exact c1
      have hd : decide (k < l.length) = true := by simp; omega
      obtain ⟨y, hy⟩ : ∃ y, y = setOf (expand (l.take k)) := ⟨_, rfl⟩
      have hset := hj.1
      have hMr := setAt_lt hset
      rw [← hy] at hset hstep
      have m0 := hset.cell 0 (by decide)
      have m1 := hset.cell 1 (by decide)
      have m2 := hset.cell 2 (by decide)
      have m3 := hset.cell 3 (by decide)
      have hra := range_any lo hi (by omega) hhi
      clear c0 c1 hlo hhi' hg hcells' f1 hexp hy
      --DBG
      go_wp2_with fail
      go_region_with (first
        | (go_at_call 16; refine (hra _).mono ?_; rintro e w5 ⟨rfl, hb5⟩; have r0 : ∀ o, w5.cell? ⟨M, o, none⟩ = wr.cell? ⟨M, o, none⟩ := fun o => hb5.cell (p := ⟨M, o, none⟩) hMr; have hM5 : M < w5.heap.size := Nat.lt_of_lt_of_le hMr hb5.size; have hr5 := (Below.refl wr.heap.size wr).drew.trans hb5)
        | (go_at_call 22; refine (or_any _ _ _).mono ?_; rintro e w6 ⟨rfl, hb6⟩; have r1 : ∀ o, w6.cell? ⟨M, o, none⟩ = w5.cell? ⟨M, o, none⟩ := fun o => hb6.cell (p := ⟨M, o, none⟩) hM5; have hr6 := hr5.trans (hb6.mono hr5.size); have q1 : ∀ o, w6.frozen? ⟨M, o, none⟩ = false := fun o => (hr6.frozen (p := ⟨M, o, none⟩) hMr).trans (hset.free o)))
      all_goals
        have hfin := hstep w6 hr6 hMr _ rfl
        clear hstep r0 r1 q1
        go_wp2_with fail
        go_roundw
        case rel => exact ⟨k + 1, by omega, by go_num, hfin⟩
        case measure => simp [intOf]; omega
    · have hd : decide (k < l.length) = false := by simp; omega
      obtain rfl : k = l.length := by omega
      have ht : setOf (expand (l.take l.length)) = s := by rw [List.take_of_length_le (Nat.le_refl _)]; exact hexp
      have hS : SetAt wr M s := by have := hj.1; rw [ht] at this; exact this
      have hA : SetAt wr w.heap.size s := hj.2.setAt A3 (by omega) (by omega)
      have hB : SetAt wr (w.heap.size + 1) t := hj.2.setAt B3 (by omega) (by omega)
      have hD : SetAt wr (w.heap.size + 1 + 1) d := hj.2.setAt D3 (by omega) (by omega)
      have hMr := setAt_lt hS
      have hTr : TabAt 0 Lib.deBruijn64tab wr := fun j hj' => by rw [hj.2.cell ⟨0, j, none⟩ (by have := tab_pos hT; simp; omega) (by have := tab_pos hT; simp; omega)]; exact hT4 j hj'
      have hbE : Below w.heap.size w wr := hbw3.trans (hj.2.toBelow (by omega))
      clear hj ht hT4 A3 B3 D3 hcells' f1 hexp
      have lA := fun (q : Nat) (hq : q < 4) (L : Later wr) => (setAt_below hA L.ok (by omega)).cell q hq
      have lB := fun (q : Nat) (hq : q < 4) (L : Later wr) => (setAt_below hB L.ok (by omega)).cell q hq
      have lD := fun (q : Nat) (hq : q < 4) (L : Later wr) => (setAt_below hD L.ok (by omega)).cell q hq
      have lS := fun (q : Nat) (hq : q < 4) (L : Later wr) => (setAt_below hS L.ok (by omega)).cell q hq
      have lA0 := lA 0 (by decide)
      have lA1 := lA 1 (by decide)
      have lA2 := lA 2 (by decide)
      have lA3 := lA 3 (by decide)
      have lB0 := lB 0 (by decide)
      have lB1 := lB 1 (by decide)
      have lB2 := lB 2 (by decide)
      have lB3 := lB 3 (by decide)
      have lD0 := lD 0 (by decide)
      have lD1 := lD 1 (by decide)
      have lD2 := lD 2 (by decide)
      have lD3 := lD 3 (by decide)
      have lS0 := lS 0 (by decide)
      have lS1 := lS 1 (by decide)
      have lS2 := lS 2 (by decide)
      have lS3 := lS 3 (by decide)
      clear lA lB lD lS
      have hTw : ∀ w', Below wr.heap.size wr w' → TabAt 0 Lib.deBruijn64tab w' := fun w' h => tab_below hTr h (by omega)
      have e1 := eql_of s s rfl
      have e2 := eql_of _ _ (not_or' s t)
      have e3 := eql_of (s &&& ~~~t) (s &&& ~~~t) rfl
      have e4 := eql_of _ _ (and_or' s t d)
      have e5 := eql_of _ _ (not_not' s)
      have n1 := elems_length_le s
      have n2 := elems_length_le t
      have n3 := elems_length_le (~~~s)
      have n4 := elems_length_le (s ||| t)
      have n5 := elems_length_le (s &&& t)
      have q1 : IntKind.i64.wrap (((elems s).length : Int) + ((elems (~~~s)).length : Int)) = 256 := by
        have := elems_not_length s
        rw [wrap_i64_of _ (by omega) (by omega)]; omega
      obtain ⟨N, hN⟩ : ∃ N, N = (elems s).length + (elems t).length := ⟨_, rfl⟩
      have q2 : IntKind.i64.wrap (((elems (s ||| t)).length : Int) + ((elems (s &&& t)).length : Int)) = (N : Int) := by
        have := elems_or_and_length s t
        rw [wrap_i64_of _ (by omega) (by omega)]; omega
      have q3 : IntKind.i64.wrap (((elems s).length : Int) + ((elems t).length : Int)) = (N : Int) := by
        rw [wrap_i64_of _ (by omega) (by omega)]; omega
      clear hN
      obtain ⟨c, hc⟩ : ∃ c, c = cmpNat (elems s) (elems t) := ⟨_, rfl⟩
      have hcb : -1 ≤ c ∧ c ≤ 1 := by rcases cmpNat_range (elems s) (elems t) with h | h | h <;> omega
      obtain ⟨hcb1, hcb2⟩ := hcb
      have q4 : IntKind.i64.wrap (-(-c)) = c := by rw [wrap_i64_of _ (by omega) (by omega)]; omega
      have q5 : IntKind.i64.wrap c = c := wrap_i64_of _ (by omega) (by omega)
      have k1 : ∀ w', Below wr.heap.size wr w' → Calls Tryd.prog 18 #[SV s, SV t] w' fun e w2 => e = .returned (.int .i64 c) ∧ Below w'.heap.size w' w2 := by rw [hc]; exact fun w' h => cmp_any s t w' (hTw w' h)
      have k2 : ∀ w', Below wr.heap.size wr w' → Calls Tryd.prog 18 #[SV t, SV s] w' fun e w2 => e = .returned (.int .i64 (-c)) ∧ Below w'.heap.size w' w2 := by rw [hc, ← cmpNat_neg]; exact fun w' h => cmp_any t s w' (hTw w' h)
      clear hTr hT hS hA hB hD
      obtain ⟨b, hbst⟩ : ∃ b, b = decide (s = t) := ⟨_, rfl⟩
      have hc0 : (c == 0) = b := by
        rw [hbst, hc, Bool.eq_iff_iff, beq_iff_eq, decide_eq_true_eq, cmpNat_zero]
        exact ⟨elems_inj s t, fun h => by rw [h]⟩
      have e6 : ∀ w, (Op.equalIn 10000 25 (SV s) (SV t)).run Tryd.prog w = .ok b w := fun w => by rw [hbst, eql_set]
      clear hc hbst hTw
      go_wp2_with fail
      simp only [List.append]
      have hne := Later.nonempty wr
      refine wp_region_later (W0 := wr) (Below.refl _ _) (by kernel_rfl) (by as_aux_lemma => kernel_rfl) ?_
      iterate 20 (go_big_quiet_step ((first
        | exact Later.calls (or_any _ _ _)
        | exact Later.calls (and_any _ _ _)
        | exact Later.calls (not_any _ _)
        | exact Later.calls (minus_any _ _ _)
        | exact Later.calls (len_any _ _)
        | exact Later.calls (k1 _ (Later.ok _))
        | exact Later.calls (k2 _ (Later.ok _)))))
      as_aux_lemma =>
        iterate 20 (go_big_quiet_step ((first
          | exact Later.calls (or_any _ _ _)
          | exact Later.calls (and_any _ _ _)
          | exact Later.calls (not_any _ _)
          | exact Later.calls (minus_any _ _ _)
          | exact Later.calls (len_any _ _)
          | exact Later.calls (k1 _ (Later.ok _))
          | exact Later.calls (k2 _ (Later.ok _)))))
        as_aux_lemma =>
          iterate 20 (go_big_quiet_step ((first
            | exact Later.calls (or_any _ _ _)
            | exact Later.calls (and_any _ _ _)
            | exact Later.calls (not_any _ _)
            | exact Later.calls (minus_any _ _ _)
            | exact Later.calls (len_any _ _)
            | exact Later.calls (k1 _ (Later.ok _))
            | exact Later.calls (k2 _ (Later.ok _)))))
          as_aux_lemma =>
            iterate 20 (go_big_quiet_step ((first
              | exact Later.calls (or_any _ _ _)
              | exact Later.calls (and_any _ _ _)
              | exact Later.calls (not_any _ _)
              | exact Later.calls (minus_any _ _ _)
              | exact Later.calls (len_any _ _)
              | exact Later.calls (k1 _ (Later.ok _))
              | exact Later.calls (k2 _ (Later.ok _)))))
            as_aux_lemma =>
              repeat (go_big_quiet_step ((first
                | exact Later.calls (or_any _ _ _)
                | exact Later.calls (and_any _ _ _)
                | exact Later.calls (not_any _ _)
                | exact Later.calls (minus_any _ _ _)
                | exact Later.calls (len_any _ _)
                | exact Later.calls (k1 _ (Later.ok _))
                | exact Later.calls (k2 _ (Later.ok _)))))
              refine wpQuiet_nil ?_
              intro w' hw'
              obtain ⟨L, rfl⟩ := hw'
              go_wp2_with fail
              go_ret
              exact ⟨rfl, hbE.trans (L.ok.mono (by omega))⟩
theorem bytesetLaws_walk (s t d : BitVec 256) (w : World) (hT : TabAt 0 Lib.deBruijn64tab w) :
    Calls Tryd.prog 5 #[SV s, SV t, SV d] w fun e w' => e = .returned (.bool true) ∧ Below w.heap.size w w' := laws_front s t d w hT
end Go.Proofs.YtebodglhcnpfeaaDoor
