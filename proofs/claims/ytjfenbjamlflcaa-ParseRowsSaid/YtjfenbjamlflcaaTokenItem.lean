/- The walk of token's item. -/
import Derived.Test.YtjfenbjamlflcaaTokenClass
import Derived.Test.YtjfenbjamlflcaaTokenBraces
namespace Go.Proofs.Ytjfenbjamlflcaa
set_option maxRecDepth 100000
open Go.RowKit
/-- whether a text begins with another: told behind a name -/
def preB (x y : ByteArray) : Bool := Lib.hasPrefix x.data.toList y.data.toList
theorem pre_b (x y : ByteArray) (w : World) : Calls Try.prog 69 #[.string x, .string y] w fun e w' => e = .returned (.bool (preB x y)) ∧ w' = w :=
  Try.strings_HasPrefix x y w
theorem preB_two (x : ByteArray) (q : List Nat) (hx : nats x = q) : preB x ⟨#[91, 58]⟩ = decide (q.head? = some 91 ∧ q.tail.head? = some 58) := by
  subst hx
  unfold preB Lib.hasPrefix nats
  rw [show (⟨#[91, 58]⟩ : ByteArray).data.toList = [91, 58] from rfl]
  match x.data.toList with
  | [] => rfl
  | [a] => simp [List.isPrefixOf]
  | a :: b :: l =>
    simp only [List.isPrefixOf, List.map_cons, List.head?_cons, List.tail_cons, Option.some.injEq, Bool.and_true]
    rw [Bool.eq_iff_iff]
    simp only [Bool.and_eq_true, beq_iff_eq, decide_eq_true_eq]
    constructor
    · rintro ⟨h1, h2⟩; rw [← h1, ← h2]; exact ⟨rfl, rfl⟩
    · rintro ⟨h1, h2⟩; exact ⟨(UInt8.toNat_inj.mp h1).symm, (UInt8.toNat_inj.mp h2).symm⟩
/-- an item, or what is wrong where there is none -/
def itemM (cls : List Nat → Option (BitVec 256)) (first : Bool) : List Nat → BR
  | [] => .bad 2
  | x :: r => item cls first x r
theorem itemV_form (n : Nat) (b : BR) : ∃ w0 w1 w2 w3 d e : Int, itemV n b = .tuple #[.agg #[.int .u64 w0, .int .u64 w1, .int .u64 w2, .int .u64 w3], .int .i64 d, .int .i64 e] := by
  cases b with
  | bad e => exact ⟨0, 0, 0, 0, 0, e, rfl⟩
  | ok t rest => exact ⟨_, _, _, _, _, _, rfl⟩
theorem setOf_one' (c : Nat) : setOf [c] = oneByte c := rfl
theorem lenCons (x : Nat) (r : List Nat) : (x :: r).length = r.length + 1 := rfl
theorem range_eq (x y : Nat) : setOf (upTo x y) = setOf (upTo x y) := rfl

set_option maxHeartbeats 2000000 in
theorem item_q (s : ByteArray) (k : Nat) (first : Bool) (q : List Nat) (a : Int) (ha : a = (k : Int)) (hq : (nats s).drop k = q) (hk : k ≤ s.size) (hs : s.size < 4294967281) (w : World) (hm : MaxAt w) :
    Calls Try.prog 85 #[.string s, .int .i64 a, .bool first] w fun e w' => e = .returned (itemV s.size (itemM cls first q)) ∧ Below w.heap.size w w' := by
  subst ha
  have hx : nats (s.extract k s.size) = q := by rw [nats_extract, hq]
  have hlen : k + q.length = s.size := by rw [← hq, List.length_drop, nats_length]; omega
  have hp := preB_two _ q hx
  have hsin := sinB_q hq k rfl
  have hk0 : (k : Int) ≤ s.size := by omega
  have hk2 : (k : Int).toNat = k := by omega
  have hkb : k < 4294967281 := by omega
  clear hx
  cases q with
  | nil =>
    rw [decide_eq_false (by simp)] at hp
    rw [show singleM [] = (0, 2) from rfl] at hsin
    rw [show itemM cls first [] = .bad 2 from rfl, itemV_bad]
    clear hq hlen
    go_enter Try.func85, Try.ntmps85
    go_wp2_with (first
      | (go_at_call 69; refine (pre_b _ _ _).mono ?_; rintro e w1 ⟨rfl, rfl⟩)
      | (go_at_call 93; refine (single_b s _ (by omega) (by omega) _).mono ?_; rintro e w1 ⟨rfl, rfl⟩)
      | (go_at_call 81; refine (has_b s _ _ (by omega) (by omega) _).mono ?_; rintro e w1 ⟨rfl, rfl⟩))
    refine bodyPost_ret (v := .tuple #[.agg #[.int .u64 0, .int .u64 0, .int .u64 0, .int .u64 0], .int .i64 0, .int .i64 2]) (by simp [results, Try.results85, go_sem]) rfl ⟨rfl, ?_⟩
    repeat (first | exact Below.refl _ _ | refine Below.drew ?_ | refine Below.alloc ?_ (by simp; try omega) _ | refine Below.setCell ?_ (by simp; try omega) _)
  | cons x r =>
    show Calls _ _ _ _ fun e w' => e = .returned (itemV s.size (item cls first x r)) ∧ _
    rw [lenCons] at hlen
    have hxb := (nats_cons hq).2.2.1
    have hr1 := (nats_cons hq).2.2.2
    clear hq
    by_cases ca : x = 91 ∧ r.head? = some 58
    · obtain ⟨rfl, ca⟩ := ca
      obtain ⟨r', rfl⟩ := head_cons ca
      rw [decide_eq_true (by simp)] at hp
      have hr2 := (nats_cons hr1).2.2.2
      have hit : item cls first 91 (58 :: r') = classItem cls r' := by simp [item]
      rw [hit]
      have hn := named_q s k r' k rfl hr2 (by simp at hlen; omega) hs
      obtain ⟨v0, v1, v2, v3, d, e, hV⟩ := itemV_form s.size (classItem cls r')
      rw [hV] at hn ⊢
      clear hr1 hr2 hlen hit ca hsin hV
      go_enter Try.func85, Try.ntmps85
      go_wp2_with (first
        | (go_at_call 69; refine (pre_b _ _ _).mono ?_; rintro e w1 ⟨rfl, rfl⟩))
      refine (hn _ (maxAt_below hm ((Below.refl _ _).alloc (Nat.le_refl _) _))).mono ?_
      rintro e w1 ⟨rfl, hb1⟩
      have c1 : ∀ o, w1.cell? ⟨w.heap.size, o, none⟩ = _ := fun o => hb1.cell (p := ⟨w.heap.size, o, none⟩) (by simp; try omega)
      have f1 : ∀ o, w1.frozen? ⟨w.heap.size, o, none⟩ = _ := fun o => hb1.frozen (p := ⟨w.heap.size, o, none⟩) (by simp; try omega)
      have hz1 : w.heap.size < w1.heap.size := by have := hb1.size; simp at this; omega
      have B1 : Below w.heap.size w w1 := ((Below.refl _ _).alloc (Nat.le_refl _) _).trans (hb1.mono (by simp))
      clear hb1
      go_wp2_with fail
      refine bodyPost_ret (v := .tuple #[.agg #[.int .u64 v0, .int .u64 v1, .int .u64 v2, .int .u64 v3], .int .i64 d, .int .i64 e]) (by simp [results, Try.results85, go_sem, c1]) rfl ⟨rfl, ?_⟩
      iterate 4 (refine Below.setCell ?_ (by simp) _)
      exact B1
    · rw [decide_eq_false (by simpa using ca)] at hp
      by_cases cb : x = 91 ∧ (r.head? = some 46 ∨ r.head? = some 61)
      · have hit : item cls first x r = .bad 3 := by unfold item; rw [if_pos cb]
        rw [hit, itemV_bad]
        rw [show singleM (x :: r) = (0, 3) from by simp only [singleM]; rw [if_pos cb.1, if_pos cb.2]] at hsin
        clear hr1 hlen hit ca cb
        go_enter Try.func85, Try.ntmps85
        go_wp2_with (first
          | (go_at_call 69; refine (pre_b _ _ _).mono ?_; rintro e w1 ⟨rfl, rfl⟩)
          | (go_at_call 93; refine (single_b s _ (by omega) (by omega) _).mono ?_; rintro e w1 ⟨rfl, rfl⟩)
          | (go_at_call 81; refine (has_b s _ _ (by omega) (by omega) _).mono ?_; rintro e w1 ⟨rfl, rfl⟩))
        refine bodyPost_ret (v := .tuple #[.agg #[.int .u64 0, .int .u64 0, .int .u64 0, .int .u64 0], .int .i64 0, .int .i64 3]) (by simp [results, Try.results85, go_sem]) rfl ⟨rfl, ?_⟩
        repeat (first | exact Below.refl _ _ | refine Below.drew ?_ | refine Below.alloc ?_ (by simp; try omega) _ | refine Below.setCell ?_ (by simp; try omega) _)
      · rw [show singleM (x :: r) = (x, 0) from by
          simp only [singleM]
          by_cases h91 : x = 91
          · rw [if_pos h91, if_neg (fun h => cb ⟨h91, h⟩), if_neg (fun h => ca ⟨h91, h⟩), h91]
          · rw [if_neg h91]] at hsin
        have e93 := hasB_q hr1 (k + 1) (by omega) 93 93 rfl
        have e45 := hasB_q hr1 (k + 1) (by omega) 45 45 rfl
        by_cases cc : x = 45 ∧ first = false ∧ r.head? ≠ some 93
        · have hit : item cls first x r = .bad 2 := by unfold item; rw [if_neg cb, if_neg ca, if_pos cc]
          rw [hit, itemV_bad]
          obtain ⟨rfl, rfl, c93⟩ := cc
          rw [decide_eq_false c93] at e93
          clear hr1 hlen hit ca cb c93 e45
          go_enter Try.func85, Try.ntmps85
          go_wp2_with (first
            | (go_at_call 69; refine (pre_b _ _ _).mono ?_; rintro e w1 ⟨rfl, rfl⟩)
            | (go_at_call 93; refine (single_b s _ (by omega) (by omega) _).mono ?_; rintro e w1 ⟨rfl, rfl⟩)
            | (go_at_call 81; refine (has_b s _ _ (by omega) (by omega) _).mono ?_; rintro e w1 ⟨rfl, rfl⟩))
          refine bodyPost_ret (v := .tuple #[.agg #[.int .u64 0, .int .u64 0, .int .u64 0, .int .u64 0], .int .i64 0, .int .i64 2]) (by simp [results, Try.results85, go_sem]) rfl ⟨rfl, ?_⟩
          repeat (first | exact Below.refl _ _ | refine Below.drew ?_ | refine Below.alloc ?_ (by simp; try omega) _ | refine Below.setCell ?_ (by simp; try omega) _)
        · have hit : item cls first x r = rangeOf x r := by unfold item; rw [if_neg cb, if_neg ca, if_neg cc]
          rw [hit]
          clear hit ca cb
          have hof := fun g n cap w => of_any g n cap [x] w
          rw [setOf_one'] at hof
          have hby := fun g cap w h => hof (some ⟨g, 0, none⟩) 1 cap w h
          have hways : (x ≠ 45) ∨ (x = 45 ∧ first = true) ∨ (x = 45 ∧ first = false ∧ r.head? = some 93) := by
            by_cases h1 : x = 45
            · cases first with
              | true => exact .inr (.inl ⟨h1, rfl⟩)
              | false =>
                refine .inr (.inr ⟨h1, rfl, ?_⟩)
                by_cases h3 : r.head? = some 93
                · exact h3
                · exact absurd ⟨h1, rfl, h3⟩ cc
            · exact .inl h1
          clear cc
          by_cases cd : r.head? = some 45
          · obtain ⟨r1, rfl⟩ := head_cons cd
            rw [decide_eq_true cd] at e45
            rw [decide_eq_false (by simp)] at e93
            rw [lenCons] at hlen
            have hr2 := (nats_cons hr1).2.2.2
            rw [Nat.add_assoc] at hr2
            have f93 := hasB_q hr2 (k + 2) (by omega) 93 93 rfl
            have hways2 : (((x : Int) == 45) = false) ∨ (x = 45 ∧ first = true) := by
              rcases hways with h | h | h
              · left; rw [beq_eq_false_iff_ne]; omega
              · exact .inr h
              · obtain ⟨_, _, h⟩ := h; injection h with h; omega
            clear cd hways
            by_cases ce : r1.head? = some 93
            · obtain ⟨r2, rfl⟩ := head_cons ce
              rw [decide_eq_true ce] at f93
              have hit : rangeOf x (45 :: 93 :: r2) = .ok (oneByte x) (45 :: 93 :: r2) := by simp [rangeOf]
              rw [hit, itemV_ok _ _ _ (k + 1) (by simp only [lenCons] at hlen ⊢; omega)]
              generalize oneByte x = S at *
              clear hlen hr1 hr2 hit ce
              rcases hways2 with hx45 | ⟨rfl, rfl⟩
              all_goals
                go_enter Try.func85, Try.ntmps85
                go_wp2_with (first
                  | (go_at_call 69; refine (pre_b _ _ _).mono ?_; rintro e w1 ⟨rfl, rfl⟩)
                  | (go_at_call 93; refine (single_b s _ (by omega) (by omega) _).mono ?_; rintro e w1 ⟨rfl, rfl⟩)
                  | (go_at_call 81; refine (has_b s _ _ (by omega) (by omega) _).mono ?_; rintro e w1 ⟨rfl, rfl⟩))
                refine (hby _ _ _ (bytesAt_new [_] (by intro z hz; rw [List.mem_singleton] at hz; omega) (by simp [maxLen]) rfl (by simp) rfl (Nat.le_refl 1))).mono ?_
                rintro e w1 ⟨rfl, hb1⟩
                have c1 : ∀ o, w1.cell? ⟨w.heap.size, o, none⟩ = _ := fun o => hb1.cell (p := ⟨w.heap.size, o, none⟩) (by simp; try omega)
                have f1 : ∀ o, w1.frozen? ⟨w.heap.size, o, none⟩ = _ := fun o => hb1.frozen (p := ⟨w.heap.size, o, none⟩) (by simp; try omega)
                have hz1 : w.heap.size < w1.heap.size := by have := hb1.size; simp at this; omega
                have B1 : Below w.heap.size w w1 := (((Below.refl _ _).alloc (Nat.le_refl _) _).alloc (by simp) _).trans (hb1.mono (by simp; omega))
                clear hb1
                go_wp2_with fail
                refine bodyPost_ret (v := .tuple #[SV S, .int .i64 (k + 1 : Nat), .int .i64 0]) (by simp [results, Try.results85, go_sem, c1]) rfl ⟨rfl, ?_⟩
                iterate 4 (refine Below.setCell ?_ (by simp) _)
                exact B1
            · rw [decide_eq_false ce] at f93
              have hsin2 := sinB_q hr2 (k + 2) (by omega)
              clear hof hby
              cases r1 with
              | nil =>
                have hit : rangeOf x [45] = .bad 2 := rfl
                rw [hit, itemV_bad]
                rw [show singleM [] = (0, 2) from rfl] at hsin2
                clear hlen hr1 hr2 hit ce
                rcases hways2 with hx45 | ⟨rfl, rfl⟩
                all_goals
                  go_enter Try.func85, Try.ntmps85
                  go_wp2_with (first
                    | (go_at_call 69; refine (pre_b _ _ _).mono ?_; rintro e w1 ⟨rfl, rfl⟩)
                    | (go_at_call 93; refine (single_b s _ (by omega) (by omega) _).mono ?_; rintro e w1 ⟨rfl, rfl⟩)
                    | (go_at_call 81; refine (has_b s _ _ (by omega) (by omega) _).mono ?_; rintro e w1 ⟨rfl, rfl⟩))
                  refine bodyPost_ret (v := .tuple #[.agg #[.int .u64 0, .int .u64 0, .int .u64 0, .int .u64 0], .int .i64 0, .int .i64 2]) (by simp [results, Try.results85, go_sem]) rfl ⟨rfl, ?_⟩
                  repeat (first | exact Below.refl _ _ | refine Below.drew ?_ | refine Below.alloc ?_ (by simp; try omega) _ | refine Below.setCell ?_ (by simp; try omega) _)
              | cons y r2 =>
                have hyb := (nats_cons hr2).2.2.1
                have hy93 : y ≠ 93 := fun h => ce (by rw [h]; rfl)
                rw [lenCons] at hlen
                by_cases cf : y = 91 ∧ (r2.head? = some 46 ∨ r2.head? = some 61)
                · have hit : rangeOf x (45 :: y :: r2) = .bad 3 := by simp only [rangeOf]; rw [if_neg hy93, if_pos cf]
                  rw [hit, itemV_bad]
                  rw [show singleM (y :: r2) = (0, 3) from by simp only [singleM]; rw [if_pos cf.1, if_pos cf.2]] at hsin2
                  clear hlen hr1 hr2 hit ce cf hy93
                  rcases hways2 with hx45 | ⟨rfl, rfl⟩
                  all_goals
                    go_enter Try.func85, Try.ntmps85
                    go_wp2_with (first
                      | (go_at_call 69; refine (pre_b _ _ _).mono ?_; rintro e w1 ⟨rfl, rfl⟩)
                      | (go_at_call 93; refine (single_b s _ (by omega) (by omega) _).mono ?_; rintro e w1 ⟨rfl, rfl⟩)
                      | (go_at_call 81; refine (has_b s _ _ (by omega) (by omega) _).mono ?_; rintro e w1 ⟨rfl, rfl⟩))
                    refine bodyPost_ret (v := .tuple #[.agg #[.int .u64 0, .int .u64 0, .int .u64 0, .int .u64 0], .int .i64 0, .int .i64 3]) (by simp [results, Try.results85, go_sem]) rfl ⟨rfl, ?_⟩
                    repeat (first | exact Below.refl _ _ | refine Below.drew ?_ | refine Below.alloc ?_ (by simp; try omega) _ | refine Below.setCell ?_ (by simp; try omega) _)
                · by_cases cg : y = 91 ∧ r2.head? = some 58
                  · have hit : rangeOf x (45 :: y :: r2) = .bad 2 := by simp only [rangeOf]; rw [if_neg hy93, if_neg cf, if_pos (Or.inl cg)]
                    rw [hit, itemV_bad]
                    rw [show singleM (y :: r2) = (0, 2) from by simp only [singleM]; rw [if_pos cg.1, if_neg (fun h => cf ⟨cg.1, h⟩), if_pos cg.2]] at hsin2
                    clear hlen hr1 hr2 hit ce cf cg hy93
                    rcases hways2 with hx45 | ⟨rfl, rfl⟩
                    all_goals
                      go_enter Try.func85, Try.ntmps85
                      go_wp2_with (first
                        | (go_at_call 69; refine (pre_b _ _ _).mono ?_; rintro e w1 ⟨rfl, rfl⟩)
                        | (go_at_call 93; refine (single_b s _ (by omega) (by omega) _).mono ?_; rintro e w1 ⟨rfl, rfl⟩)
                        | (go_at_call 81; refine (has_b s _ _ (by omega) (by omega) _).mono ?_; rintro e w1 ⟨rfl, rfl⟩))
                      refine bodyPost_ret (v := .tuple #[.agg #[.int .u64 0, .int .u64 0, .int .u64 0, .int .u64 0], .int .i64 0, .int .i64 2]) (by simp [results, Try.results85, go_sem]) rfl ⟨rfl, ?_⟩
                      repeat (first | exact Below.refl _ _ | refine Below.drew ?_ | refine Below.alloc ?_ (by simp; try omega) _ | refine Below.setCell ?_ (by simp; try omega) _)
                  · rw [show singleM (y :: r2) = (y, 0) from by
                      simp only [singleM]
                      by_cases h91 : y = 91
                      · rw [if_pos h91, if_neg (fun h => cf ⟨h91, h⟩), if_neg (fun h => cg ⟨h91, h⟩), h91]
                      · rw [if_neg h91]] at hsin2
                    by_cases ch : y < x
                    · have hit : rangeOf x (45 :: y :: r2) = .bad 2 := by simp only [rangeOf]; rw [if_neg hy93, if_neg cf, if_pos (Or.inr ch)]
                      rw [hit, itemV_bad]
                      have hd : decide ((y : Int) < x) = true := by simp; omega
                      clear hlen hr1 hr2 hit ce cf cg hy93
                      rcases hways2 with hx45 | ⟨rfl, rfl⟩
                      all_goals
                        go_enter Try.func85, Try.ntmps85
                        go_wp2_with (first
                          | (go_at_call 69; refine (pre_b _ _ _).mono ?_; rintro e w1 ⟨rfl, rfl⟩)
                          | (go_at_call 93; refine (single_b s _ (by omega) (by omega) _).mono ?_; rintro e w1 ⟨rfl, rfl⟩)
                          | (go_at_call 81; refine (has_b s _ _ (by omega) (by omega) _).mono ?_; rintro e w1 ⟨rfl, rfl⟩))
                        refine bodyPost_ret (v := .tuple #[.agg #[.int .u64 0, .int .u64 0, .int .u64 0, .int .u64 0], .int .i64 0, .int .i64 2]) (by simp [results, Try.results85, go_sem]) rfl ⟨rfl, ?_⟩
                        repeat (first | exact Below.refl _ _ | refine Below.drew ?_ | refine Below.alloc ?_ (by simp; try omega) _ | refine Below.setCell ?_ (by simp; try omega) _)
                    · have hit : rangeOf x (45 :: y :: r2) = .ok (setOf (upTo x y)) r2 := by
                        simp only [rangeOf]
                        rw [if_neg hy93, if_neg cf, if_neg (fun h => h.elim cg ch)]
                      rw [hit, itemV_ok _ _ _ (k + 3) (by omega)]
                      have hd : decide ((y : Int) < x) = false := by simp; omega
                      have hra := range_any x y hxb hyb
                      generalize setOf (upTo x y) = S at *
                      clear hlen hr1 hr2 hit ce cf cg hy93
                      rcases hways2 with hx45 | ⟨rfl, rfl⟩
                      all_goals
                        go_enter Try.func85, Try.ntmps85
                        go_wp2_with (first
                          | (go_at_call 69; refine (pre_b _ _ _).mono ?_; rintro e w1 ⟨rfl, rfl⟩)
                          | (go_at_call 93; refine (single_b s _ (by omega) (by omega) _).mono ?_; rintro e w1 ⟨rfl, rfl⟩)
                          | (go_at_call 81; refine (has_b s _ _ (by omega) (by omega) _).mono ?_; rintro e w1 ⟨rfl, rfl⟩))
                        refine (hra _).mono ?_
                        rintro e w1 ⟨rfl, hb1⟩
                        have c1 : ∀ o, w1.cell? ⟨w.heap.size, o, none⟩ = _ := fun o => hb1.cell (p := ⟨w.heap.size, o, none⟩) (by simp; try omega)
                        have f1 : ∀ o, w1.frozen? ⟨w.heap.size, o, none⟩ = _ := fun o => hb1.frozen (p := ⟨w.heap.size, o, none⟩) (by simp; try omega)
                        have hz1 : w.heap.size < w1.heap.size := by have := hb1.size; simp at this; omega
                        have B1 : Below w.heap.size w w1 := ((Below.refl _ _).alloc (Nat.le_refl _) _).trans (hb1.mono (by simp))
                        clear hb1
                        go_wp2_with fail
                        refine bodyPost_ret (v := .tuple #[SV S, .int .i64 (k + 3 : Nat), .int .i64 0]) (by simp [results, Try.results85, go_sem, c1]) rfl ⟨rfl, ?_⟩
                        iterate 4 (refine Below.setCell ?_ (by simp) _)
                        exact B1
          · rw [decide_eq_false cd] at e45
            have hit : rangeOf x r = .ok (oneByte x) r := by
              cases r with
              | nil => rfl
              | cons c t => exact rangeOf_other x c t (fun h => cd (by rw [h]; rfl))
            rw [hit, itemV_ok _ _ _ (k + 1) (by omega)]
            generalize oneByte x = S at *
            have hways2 : (((x : Int) == 45) = false) ∨ (x = 45 ∧ first = true) ∨ (x = 45 ∧ first = false ∧ r.head? = some 93) := by
              rcases hways with h | h
              · left; rw [beq_eq_false_iff_ne]; omega
              · exact .inr h
            clear hlen hr1 hit cd hways
            have hw93 : first = false → x = 45 → hasB s (k + 1) 93 = true := by
              intro h1 h2
              rcases hways2 with h | h | h
              · rw [beq_eq_false_iff_ne] at h; omega
              · rw [h.2] at h1; cases h1
              · rw [e93, decide_eq_true h.2.2]
            clear e93
            rcases hways2 with hx45 | ⟨rfl, rfl⟩ | ⟨rfl, rfl, h93⟩
            case inr.inr =>
              have e93 := hw93 rfl rfl
              clear hw93 h93

              go_enter Try.func85, Try.ntmps85
              go_wp2_with (first
                | (go_at_call 69; refine (pre_b _ _ _).mono ?_; rintro e w1 ⟨rfl, rfl⟩)
                | (go_at_call 93; refine (single_b s _ (by omega) (by omega) _).mono ?_; rintro e w1 ⟨rfl, rfl⟩)
                | (go_at_call 81; refine (has_b s _ _ (by omega) (by omega) _).mono ?_; rintro e w1 ⟨rfl, rfl⟩))
              refine (hby _ _ _ (bytesAt_new [_] (by intro z hz; rw [List.mem_singleton] at hz; omega) (by simp [maxLen]) rfl (by simp) rfl (Nat.le_refl 1))).mono ?_
              rintro e w1 ⟨rfl, hb1⟩
              have c1 : ∀ o, w1.cell? ⟨w.heap.size, o, none⟩ = _ := fun o => hb1.cell (p := ⟨w.heap.size, o, none⟩) (by simp; try omega)
              have f1 : ∀ o, w1.frozen? ⟨w.heap.size, o, none⟩ = _ := fun o => hb1.frozen (p := ⟨w.heap.size, o, none⟩) (by simp; try omega)
              have hz1 : w.heap.size < w1.heap.size := by have := hb1.size; simp at this; omega
              have B1 : Below w.heap.size w w1 := (((Below.refl _ _).alloc (Nat.le_refl _) _).alloc (by simp) _).trans (hb1.mono (by simp; omega))
              clear hb1
              go_wp2_with fail
              refine bodyPost_ret (v := .tuple #[SV S, .int .i64 (k + 1 : Nat), .int .i64 0]) (by simp [results, Try.results85, go_sem, c1]) rfl ⟨rfl, ?_⟩
              iterate 4 (refine Below.setCell ?_ (by simp) _)
              exact B1
            all_goals
              clear hw93
              go_enter Try.func85, Try.ntmps85
              go_wp2_with (first
                | (go_at_call 69; refine (pre_b _ _ _).mono ?_; rintro e w1 ⟨rfl, rfl⟩)
                | (go_at_call 93; refine (single_b s _ (by omega) (by omega) _).mono ?_; rintro e w1 ⟨rfl, rfl⟩)
                | (go_at_call 81; refine (has_b s _ _ (by omega) (by omega) _).mono ?_; rintro e w1 ⟨rfl, rfl⟩))
              refine (hby _ _ _ (bytesAt_new [_] (by intro z hz; rw [List.mem_singleton] at hz; omega) (by simp [maxLen]) rfl (by simp) rfl (Nat.le_refl 1))).mono ?_
              rintro e w1 ⟨rfl, hb1⟩
              have c1 : ∀ o, w1.cell? ⟨w.heap.size, o, none⟩ = _ := fun o => hb1.cell (p := ⟨w.heap.size, o, none⟩) (by simp; try omega)
              have f1 : ∀ o, w1.frozen? ⟨w.heap.size, o, none⟩ = _ := fun o => hb1.frozen (p := ⟨w.heap.size, o, none⟩) (by simp; try omega)
              have hz1 : w.heap.size < w1.heap.size := by have := hb1.size; simp at this; omega
              have B1 : Below w.heap.size w w1 := (((Below.refl _ _).alloc (Nat.le_refl _) _).alloc (by simp) _).trans (hb1.mono (by simp; omega))
              clear hb1
              go_wp2_with fail
              refine bodyPost_ret (v := .tuple #[SV S, .int .i64 (k + 1 : Nat), .int .i64 0]) (by simp [results, Try.results85, go_sem, c1]) rfl ⟨rfl, ?_⟩
              iterate 4 (refine Below.setCell ?_ (by simp) _)
              exact B1
end Go.Proofs.Ytjfenbjamlflcaa
