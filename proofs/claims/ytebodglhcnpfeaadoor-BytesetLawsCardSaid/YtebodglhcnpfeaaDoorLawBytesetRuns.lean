/- The walk of the law on runs: they are apart, rise, and are as few as may be. -/
import Derived.Test.YtebodglhcnpfeaaDoorSetAwake
import Derived.BigQuiet
import Derived.Deep.QuietTactic
namespace Go.Proofs.YtebodglhcnpfeaaDoor
open Go.RowKit

def expand (acc : List (Nat × Nat)) : List Nat := acc.flatMap fun r => upTo r.1 r.2
def Good (acc : List (Nat × Nat)) : Prop := (∀ r ∈ acc, r.1 ≤ r.2) ∧ acc.Pairwise (fun r r' => r.2 + 1 < r'.1)
theorem upTo_snoc (lo hi : Nat) (h : lo ≤ hi) : upTo lo (hi + 1) = upTo lo hi ++ [hi + 1] := by
  unfold upTo
  rw [show hi + 1 + 1 - lo = (hi + 1 - lo) + 1 from by omega, List.range_succ, List.map_append]
  simp; omega
theorem upTo_one (b : Nat) : upTo b b = [b] := by
  unfold upTo
  rw [show b + 1 - b = 1 from by omega]
  simp
theorem expand_append (a b : List (Nat × Nat)) : expand (a ++ b) = expand a ++ expand b := by simp [expand]
theorem expand_one (r : Nat × Nat) : expand [r] = upTo r.1 r.2 := by simp [expand]
theorem addRun_good (acc : List (Nat × Nat)) (b : Nat) (h : Good acc) (hb : ∀ r, acc.getLast? = some r → r.2 < b) :
    Good (addRun acc b) ∧ expand (addRun acc b) = expand acc ++ [b] ∧ ∀ r, (addRun acc b).getLast? = some r → r.2 = b := by
  rcases List.eq_nil_or_concat acc with rfl | ⟨pre, ⟨lo, hi⟩, rfl⟩
  · refine ⟨⟨?_, ?_⟩, ?_, ?_⟩
    · intro r hr; simp [addRun] at hr; subst hr; exact Nat.le_refl _
    · simp [addRun]
    · simp [addRun, expand, upTo_one]
    · intro r hr; simp [addRun] at hr; subst hr; rfl
  · rw [List.concat_eq_append] at *
    obtain ⟨h1, h2⟩ := h
    have hlt : hi < b := hb (lo, hi) (by simp)
    have hlo : lo ≤ hi := h1 (lo, hi) (by simp)
    rw [List.pairwise_append] at h2
    obtain ⟨p1, _, p3⟩ := h2
    by_cases e : hi + 1 = b
    · rw [addRun_adj _ _ _ _ e]
      refine ⟨⟨?_, ?_⟩, ?_, ?_⟩
      · intro r hr
        rcases List.mem_append.1 hr with hr | hr
        · exact h1 r (by simp [hr])
        · simp at hr; subst hr; show lo ≤ b; omega
      · rw [List.pairwise_append]
        exact ⟨p1, by simp, fun r hr r' hr' => by simp at hr'; subst hr'; exact p3 r hr (lo, hi) (by simp)⟩
      · rw [expand_append, expand_append, expand_one, expand_one, ← e, upTo_snoc lo hi hlo]; simp
      · intro r hr; simp at hr; subst hr; rfl
    · rw [addRun_far _ _ _ _ e]
      refine ⟨⟨?_, ?_⟩, ?_, ?_⟩
      · intro r hr
        rcases List.mem_append.1 hr with hr | hr
        · exact h1 r hr
        · simp at hr; subst hr; exact Nat.le_refl _
      · rw [List.pairwise_append]
        refine ⟨by rw [List.pairwise_append]; exact ⟨p1, by simp, p3⟩, by simp, fun r hr r' hr' => ?_⟩
        simp at hr'
        subst hr'
        rcases List.mem_append.1 hr with hr | hr
        · have := p3 r hr (lo, hi) (by simp); show r.2 + 1 < b; omega
        · simp at hr; subst hr; show hi + 1 < b; omega
      · rw [expand_append _ [(b, b)], expand_one, upTo_one]
      · intro r hr; simp at hr; subst hr; rfl
theorem runs_fold : ∀ (l : List Nat) (acc : List (Nat × Nat)), Good acc → l.Pairwise (· < ·) → (∀ r, acc.getLast? = some r → ∀ x ∈ l, r.2 < x) →
    Good (l.foldl addRun acc) ∧ expand (l.foldl addRun acc) = expand acc ++ l
  | [], acc, h, _, _ => ⟨h, by simp⟩
  | b :: l, acc, h, hs, hl => by
    rw [List.foldl_cons]
    rw [List.pairwise_cons] at hs
    obtain ⟨g1, g2, g3⟩ := addRun_good acc b h (fun r hr => hl r hr b (by simp))
    obtain ⟨k1, k2⟩ := runs_fold l (addRun acc b) g1 hs.2 (fun r hr x hx => by rw [g3 r hr]; exact hs.1 x hx)
    exact ⟨k1, by rw [k2, g2]; simp⟩
theorem runsOf_good (l : List Nat) (hs : l.Pairwise (· < ·)) : Good (runsOf l) ∧ expand (runsOf l) = l := by
  have := runs_fold l [] ⟨by simp, by simp⟩ hs (by simp)
  simpa [runsOf, expand] using this
theorem elems_sorted (s : BitVec 256) : (elems s).Pairwise (· < ·) := List.Pairwise.filter _ List.pairwise_lt_range
/-- how many bytes the first k runs hold -/
def held (l : List (Nat × Nat)) (k : Nat) : Nat := (expand (l.take k)).length
theorem held_succ (l : List (Nat × Nat)) (k : Nat) (hk : k < l.length) (hle : (l.getD k (0, 0)).1 ≤ (l.getD k (0, 0)).2) : (held l (k + 1) : Int) = held l k + (l.getD k (0, 0)).2 - (l.getD k (0, 0)).1 + 1 := by
  have e : l.getD k (0, 0) = l[k] := by rw [List.getD_eq_getElem?_getD, List.getElem?_eq_getElem hk]; rfl
  rw [e] at hle ⊢
  unfold held
  rw [List.take_succ_eq_append_getElem hk, expand_append, expand_one, List.length_append, upTo, List.length_map, List.length_range]
  omega
/-- what the runs of a set are, place by place -/
theorem runs_facts (s : BitVec 256) : let l := runsOf (elems s)
    (∀ k, k < l.length → (l.getD k (0, 0)).1 ≤ (l.getD k (0, 0)).2 ∧ (l.getD k (0, 0)).2 < 256) ∧ (∀ k, k + 1 < l.length → (l.getD k (0, 0)).2 + 1 < (l.getD (k + 1) (0, 0)).1) ∧ held l l.length = (elems s).length ∧ ∀ k, held l k ≤ 256 := by
  obtain ⟨⟨h1, h2⟩, h3⟩ := runsOf_good (elems s) (elems_sorted s)
  obtain ⟨m, hm⟩ : ∃ m, m = runsOf (elems s) := ⟨_, rfl⟩
  rw [← hm] at h1 h2 h3 ⊢
  clear hm
  show (∀ k, k < m.length → (m.getD k (0, 0)).1 ≤ (m.getD k (0, 0)).2 ∧ (m.getD k (0, 0)).2 < 256) ∧ (∀ k, k + 1 < m.length → (m.getD k (0, 0)).2 + 1 < (m.getD (k + 1) (0, 0)).1) ∧ held m m.length = (elems s).length ∧ ∀ k, held m k ≤ 256
  generalize m = l at *
  have hg : ∀ k (hk : k < l.length), l.getD k (0, 0) = l[k] := fun k hk => by rw [List.getD_eq_getElem?_getD, List.getElem?_eq_getElem hk]; rfl
  refine ⟨fun k hk => ?_, fun k hk => ?_, ?_, fun k => ?_⟩
  · rw [hg k hk]
    have hm : l[k] ∈ l := List.getElem_mem _
    refine ⟨h1 _ hm, ?_⟩
    have : l[k].2 ∈ elems s := by
      rw [← h3]
      unfold expand
      rw [List.mem_flatMap]
      exact ⟨_, hm, (upTo_mem _ _ _).2 ⟨h1 _ hm, Nat.le_refl _⟩⟩
    exact ((mem_elems s _).1 this).1
  · rw [hg k (by omega), hg (k + 1) hk]
    exact List.pairwise_iff_getElem.1 h2 k (k + 1) (by omega) hk (by omega)
  · unfold held; rw [List.take_of_length_le (Nat.le_refl _), h3]
  · have : (expand (l.take k)).length ≤ (expand l).length := by
      conv => rhs; rw [← List.take_append_drop k l, expand_append, List.length_append]
      omega
    unfold held
    rw [h3] at this
    have := elems_length_le s
    omega
theorem below_drewN {B n : Nat} {a w : World} (h : Below B a w) : Below B a (w.drewN n) := by
  cases n <;> exact ⟨h.os, h.tape, h.output, h.size, h.block⟩
set_option maxHeartbeats 2000000 in
theorem bytesetRuns_walk (s : BitVec 256) (w : World) (hT : TabAt 0 Lib.deBruijn64tab w) :
    Calls Tryd.prog 6 #[SV s] w fun e w' => e = .returned (.bool true) ∧ Below w.heap.size w w' := by
  obtain ⟨f1, f2, f3, f4⟩ := runs_facts s
  obtain ⟨l, hl⟩ : ∃ l, l = runsOf (elems s) := ⟨_, rfl⟩
  have hruns := runs_at s
  rw [← hl] at f1 f2 f3 f4 hruns
  have hlen := len_any s
  rw [← f3] at hlen
  have hT0 := tab_alloc hT
  clear f3 hl
  go_enter Tryd.func6, Tryd.ntmps6
  go_wp2_with fail
  refine (awake_any _ (hT0 _)).mono ?_
  rintro e w1 ⟨rfl, hb1⟩
  have hT1 := tab_below (hT0 _) hb1 (by simp)
  have hc1 := (bcell hb1).1
  have hz1 : w.heap.size < w1.heap.size := by have := hb1.size; simp at this; omega
  go_wp2_with fail
  refine (hruns _ hT1).mono ?_
  rintro e w2 ⟨a, cap, rfl, hb2, hl256, hcells⟩
  have hbW := hb1.trans (hb2.mono hb1.size)
  have hz2 : w.heap.size < w2.heap.size := by have := hb2.size; omega
  go_wp2_with fail
  have hg0 : ∀ k, k < l.length → ∃ g, a = some ⟨g, 0, none⟩ ∧ ∀ k, k < l.length → g < w2.heap.size ∧ l.length ≤ cap ∧ w2.cell? ⟨g, k * 2, none⟩ = some (.int .u8 ((l.getD k (0, 0)).1 : Int)) ∧ w2.cell? ⟨g, k * 2 + 1, none⟩ = some (.int .u8 ((l.getD k (0, 0)).2 : Int)) := by
    intro k hk
    obtain ⟨g, rfl, _⟩ := hcells k hk
    refine ⟨g, rfl, fun k hk => ?_⟩
    obtain ⟨g', e, _, h⟩ := hcells k hk
    cases e
    exact h
  clear hcells
  have hs : held l 0 = 0 := rfl
  go_loopw [4, 5] (fun n i wr => ∃ k : Nat, k ≤ l.length ∧ i = .int .i64 k ∧ n = .int .i64 (held l k) ∧ Below w2.heap.size w2 wr) (fun _ i _ => l.length - (intOf i).toNat)
  case atStart => exact ⟨0, by omega, rfl, by rw [hs]; rfl, Below.refl _ _⟩
  case round =>
    clear hs
    obtain ⟨k, hk, rfl, rfl, hb⟩ := hrel
    by_cases hkl : k < l.length
    · obtain ⟨g, rfl, hg⟩ := hg0 k hkl
      obtain ⟨hg1, hcap, c0, c1⟩ := hg k hkl
      have hsucc := held_succ l k hkl (f1 k hkl).1
      have hhk := f4 k
      have hhk1 := f4 (k + 1)
      obtain ⟨hle, hhi⟩ := f1 k hkl
      obtain ⟨lo, hlo⟩ : ∃ lo, lo = (l.getD k (0, 0)).1 := ⟨_, rfl⟩
      obtain ⟨hi, hhi'⟩ : ∃ hi, hi = (l.getD k (0, 0)).2 := ⟨_, rfl⟩
      rw [← hlo, ← hhi'] at hsucc
      rw [← hlo, ← hhi'] at hle
      rw [← hhi'] at hhi c1
      rw [← hlo] at c0
      have d0 : wr.cell? ⟨g, k * 2, none⟩ = some (.int .u8 (lo : Int)) := by rw [hb.cell (p := ⟨g, k * 2, none⟩) hg1]; exact c0
      have d1 : wr.cell? ⟨g, k * 2 + 1, none⟩ = some (.int .u8 (hi : Int)) := by rw [hb.cell (p := ⟨g, k * 2 + 1, none⟩) hg1]; exact c1
      have t0 : decide (k < l.length) = true := by simp; omega
      have t1 : decide (lo > hi) = false := by simp; omega
      have t2 : (IntKind.i64.wrap ((held l k : Int) + hi - lo + 1)) = held l (k + 1) := by rw [hsucc]; exact wrap_i64_of _ (by omega) (by omega)
      have Hs := Lib.hid hsucc
      clear hsucc c0 c1 hhi'
      by_cases hk0 : k = 0
      · subst hk0
        have f2' := Lib.hid f2
        clear f2 f1 f4 hg hg0 hlo
        go_wp2_with fail
        go_quiet (fail)
        go_wp2_with fail
        go_quiet (fail)
        go_wp2_with fail
        go_roundw
        case rel => exact ⟨0 + 1, by omega, rfl, rfl, (by first | exact below_drewN hb | exact below_drewN (below_drewN hb))⟩
        case measure => simp [intOf]; omega
      · obtain ⟨k', rfl⟩ : ∃ k', k = k' + 1 := ⟨k - 1, by omega⟩
        have hap := f2 k' hkl
        have cp := (hg k' (by omega)).2.2.2
        obtain ⟨hp, hhp⟩ : ∃ hp, hp = (l.getD k' (0, 0)).2 := ⟨_, rfl⟩
        rw [← hhp] at hap cp
        rw [← hlo] at hap
        have dp : wr.cell? ⟨g, k' * 2 + 1, none⟩ = some (.int .u8 (hp : Int)) := by rw [hb.cell (p := ⟨g, k' * 2 + 1, none⟩) hg1]; exact cp
        have hhp256 : hp < 256 := by rw [hhp]; exact (f1 k' (by omega)).2
        have t3 : decide ((k' : Int) + 1 > 0) = true := by simp
        have t4 : decide ((lo : Int) ≤ (hp : Int) + 1) = false := by simp; omega
        clear f2 f1 f4 hg hg0 cp hhp hlo
        go_wp2_with fail
        go_quiet (fail)
        go_wp2_with fail
        go_quiet (fail)
        go_wp2_with fail
        go_roundw
        case rel => exact ⟨k' + 1 + 1, by omega, by go_num, rfl, (by first | exact below_drewN hb | exact below_drewN (below_drewN hb))⟩
        case measure => simp [intOf]; omega
    · have hd : decide (k < l.length) = false := by simp; omega
      obtain rfl : k = l.length := by omega
      have hbE := hbW.trans (hb.mono hbW.size)
      have hcE := (bcell hbE).1
      have hzE : w.heap.size < wr.heap.size := by have := hb.size; omega
      go_wp2_with fail
      refine (hlen _).mono ?_
      rintro e w3 ⟨rfl, hb3⟩
      go_wp2_with fail
      go_ret
      refine ⟨by simp, ?_⟩
      exact (((Below.refl _ _).alloc (Nat.le_refl _) _).trans (hbE.mono (by simp))).trans (hb3.mono (by have := hbE.size; simp at this; omega))
end Go.Proofs.YtebodglhcnpfeaaDoor
