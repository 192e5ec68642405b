/- The walk of token's escape. -/
import Derived.Test.YtjfenbjamlflcaaTokenNum
namespace Go.Proofs.Ytjfenbjamlflcaa
set_option maxRecDepth 100000
open Go.RowKit
theorem special_at (c : Nat) (h : c < 256) : decide (Lib.indexByte [46, 91, 93, 92, 40, 41, 42, 43, 63, 123, 125, 124, 94, 36, 45] ((c : Int).toNat.toUInt8) < 0) = !decide (c ∈ specials) := by
  have : ∀ c : Fin 256, decide (Lib.indexByte [46, 91, 93, 92, 40, 41, 42, 43, 63, 123, 125, 124, 94, 36, 45] (c.val.toUInt8) < 0) = !decide (c.val ∈ specials) := by decide +kernel
  exact this ⟨c, h⟩
theorem special_digit : ∀ c, 49 ≤ c → c ≤ 57 → ¬ c ∈ specials := by
  intro c h1 h2 h
  simp [specials] at h
  omega
theorem setOf_one (c : Nat) : setOf [c] = oneByte c := rfl
def idxV (c : Nat) : Int := Lib.indexByte [46, 91, 93, 92, 40, 41, 42, 43, 63, 123, 125, 124, 94, 36, 45] ((c : Int).toNat.toUInt8)
theorem idx_any' (c : Nat) (b : Int) (hb : b = c) (s : ByteArray) (hs : s = ⟨#[46, 91, 93, 92, 40, 41, 42, 43, 63, 123, 125, 124, 94, 36, 45]⟩) (w : World) :
    Calls Try.prog 84 #[.string s, .int .u8 b] w fun e w' => e = .returned (.int .i64 (idxV c)) ∧ w' = w := by
  subst hb hs
  exact Try.strings_IndexByte _ c w
set_option maxHeartbeats 2000000 in
theorem escape_q (s : ByteArray) (q : List Nat) (hq : nats s = 92 :: q) (hs : s.size < 4294967296) (w : World) :
    Calls Try.prog 71 #[.string s] w fun e w' => e = .returned (nextV s.size (escape q)) ∧ Below w.heap.size w w' := by
  have hq1 : (nats s).drop 1 = q := by rw [hq]; rfl
  have hl := nats_length s
  rw [hq, List.length_cons] at hl
  clear hq
  cases q with
  | nil =>
    have h1 : (s.size : Int) < 2 := by simp at hl; omega
    clear hq1 hl
    unfold escape nextV
    go_enter Try.func71, Try.ntmps71
    go_wp2
    all_goals try omega
    refine bodyPost_ret (v := .tuple #[tokV0 0 0 0, .int .i64 0, .int .i64 2]) (by simp [results, Try.results71, go_sem]) rfl ⟨rfl, ?_⟩
    repeat (first | exact Below.refl _ _ | refine Below.drew ?_ | refine Below.alloc ?_ (by simp; try omega) _ | refine Below.setCell ?_ (by simp; try omega) _)
  | cons c r =>
    obtain ⟨g1, g2, g3, g4⟩ := nats_cons hq1
    have hsp := special_at c g3
    rw [show Lib.indexByte _ _ = idxV c from rfl] at hsp
    simp only [List.length_cons] at hl
    clear hq1 g4
    have hof := fun g n cap w => of_any g n cap [c] w
    rw [setOf_one] at hof
    by_cases hc : c ∈ specials
    · rw [decide_eq_true hc, Bool.not_true] at hsp
      have he : escape (c :: r) = .ok ⟨1, oneByte c, 0, 0⟩ r := by unfold escape; simp only; rw [if_pos hc]
      have hd : ¬ (49 ≤ c ∧ c ≤ 57) := fun h => special_digit c h.1 h.2 hc
      have Hd := Lib.hid hd
      rw [he, nextV_ok1 _ _ _ 2 (by omega)]
      have Hl := Lib.hid hl
      clear hl he hd hc
      generalize oneByte c = S at *
      go_enter Try.func71, Try.ntmps71
      go_wp2_with (first
        | (go_at_call 84; refine (idx_any' c _ rfl _ rfl _).mono ?_; rintro e w1 ⟨rfl, rfl⟩))
      all_goals have Hd' := Hd.out
      all_goals try omega
      all_goals
        refine (hof _ _ _ _ (bytesAt_new [c] (by simp; exact g3) (by simp [maxLen]) rfl (by simp) rfl (Nat.le_refl 1))).mono ?_
        rintro e w1 ⟨rfl, hb1⟩
        have c1 : ∀ o, w1.cell? ⟨w.heap.size, o, none⟩ = _ := fun o => hb1.cell (p := ⟨w.heap.size, o, none⟩) (by simp; try omega)
        have f1 : ∀ o, w1.frozen? ⟨w.heap.size, o, none⟩ = _ := fun o => hb1.frozen (p := ⟨w.heap.size, o, none⟩) (by simp; try omega)
        have hz1 : w.heap.size < w1.heap.size := by have := hb1.size; simp at this; omega
        have B1 : Below w.heap.size w w1 := (((Below.refl _ _).alloc (Nat.le_refl _) _).alloc (by simp) _).trans (hb1.mono (by simp; omega))
        go_wp2_with fail
        refine bodyPost_ret (v := .tuple #[tokV1 S, .int .i64 (2 : Nat), .int .i64 0]) (by simp [results, Try.results71, go_sem, c1]) rfl ⟨rfl, ?_⟩
        iterate 8 (refine Below.setCell ?_ (by simp) _)
        exact B1
    · rw [decide_eq_false hc, Bool.not_false] at hsp
      by_cases hd : 49 ≤ c ∧ c ≤ 57
      · have he : escape (c :: r) = .bad 3 := by unfold escape; simp only; rw [if_neg hc, if_pos hd]
        rw [he, nextV_bad]
        have Hd := Lib.hid hd
        have Hl := Lib.hid hl
        clear hl he hd hc hof
        go_enter Try.func71, Try.ntmps71
        go_wp2_with (first
          | (go_at_call 84; refine (idx_any' c _ rfl _ rfl _).mono ?_; rintro e w1 ⟨rfl, rfl⟩))
        all_goals have Hd' := Hd.out
        all_goals try omega
        all_goals
          refine bodyPost_ret (v := .tuple #[tokV0 0 0 0, .int .i64 0, .int .i64 3]) (by simp [results, Try.results71, go_sem]) rfl ⟨rfl, ?_⟩
          repeat (first | exact Below.refl _ _ | refine Below.drew ?_ | refine Below.alloc ?_ (by simp; try omega) _ | refine Below.setCell ?_ (by simp; try omega) _)
      · have he : escape (c :: r) = .bad 2 := by unfold escape; simp only; rw [if_neg hc, if_neg hd]
        rw [he, nextV_bad]
        have Hd := Lib.hid hd
        have Hl := Lib.hid hl
        clear hl he hd hc hof
        go_enter Try.func71, Try.ntmps71
        go_wp2_with (first
          | (go_at_call 84; refine (idx_any' c _ rfl _ rfl _).mono ?_; rintro e w1 ⟨rfl, rfl⟩))
        all_goals have Hd' := Hd.out
        all_goals try omega
        all_goals
          refine bodyPost_ret (v := .tuple #[tokV0 0 0 0, .int .i64 0, .int .i64 2]) (by simp [results, Try.results71, go_sem]) rfl ⟨rfl, ?_⟩
          repeat (first | exact Below.refl _ _ | refine Below.drew ?_ | refine Below.alloc ?_ (by simp; try omega) _ | refine Below.setCell ?_ (by simp; try omega) _)
end Go.Proofs.Ytjfenbjamlflcaa
