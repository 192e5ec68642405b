/- The walk of the closed law on tokens. -/
import Derived.Test.YthppkaohmdnjcaaTokenNumText
import Derived.Laws.OwnMore
namespace Go.Proofs.Ythppkaohmdnjcaa
open Go.RowKit
def badS : List (List Nat) := [[97, 123], [97, 123, 125], [97, 123, 44, 50, 125], [97, 123, 50, 44, 49, 125], [97, 123, 50], [97, 123, 50, 53, 54, 125], [97, 123, 51, 48, 48, 120], [97, 123, 51, 44, 51, 48, 48], [92, 49], [92, 57], [92, 48], [92, 110], [120, 92], [91], [91, 93], [91, 97], [91, 98, 45, 97, 93], [91, 91, 58, 119, 111, 114, 100, 58, 93, 93], [91, 91, 58, 97, 108, 112, 104, 97, 58], [91, 91, 46, 97, 46, 93, 93], [91, 91, 61, 97, 61, 93, 93], [91, 97, 45, 99, 45, 101, 93], [91, 91, 58, 100, 105, 103, 105, 116, 58, 93, 45, 122, 93], [91, 97, 45, 91, 58, 100, 105, 103, 105, 116, 58, 93, 93], [91, 97, 45, 91, 46, 120, 46, 93, 93], [91, 94, 0, 45, 255, 93]]
def badAt : List Nat := [1, 1, 1, 1, 1, 1, 1, 1, 0, 0, 0, 0, 1, 0, 0, 0, 0, 0, 0, 0, 0, 0, 0, 0, 0, 0]
def badErr : List Nat := [2, 2, 2, 2, 2, 4, 4, 4, 3, 3, 2, 2, 2, 2, 2, 2, 2, 2, 2, 3, 3, 2, 2, 2, 3, 2]
def goodS : List (List Nat) := [[91, 93, 97, 93], [91, 94, 93, 97, 93], [91, 97, 45, 93], [91, 45, 97, 93], [91, 97, 45, 99, 93], [91, 97, 94, 93], [91, 91, 58, 100, 105, 103, 105, 116, 58, 93, 120, 93], [91, 46, 93], [91, 91, 93], [91, 97, 91, 98, 93], [91, 92, 93], [46], [92, 46], [125], [93], [45], [91, 37, 45, 45, 93], [91, 93, 45, 97, 93]]
def goodW : List (BitVec 256) := [setOf [93, 97], ~~~(setOf [93, 97]), setOf [97, 45], setOf [97, 45], setOf (upTo 97 99), setOf [97, 94], setOf (upTo 48 57) ||| setOf [120], setOf [46], setOf [91], setOf [97, 91, 98], setOf [92], BitVec.allOnes 256, setOf [46], setOf [125], setOf [93], setOf [45], setOf (upTo 37 45), setOf (upTo 93 97)]
theorem bad_all : ∀ k : Fin 26, (cutAll cls (badS.getD k.val [])).1 = some (badAt.getD k.val 0, badErr.getD k.val 0) ∧ (∀ x ∈ badS.getD k.val [], x < 256) ∧ (badS.getD k.val []).length ≤ 1024 := by decide +kernel
theorem good_all : ∀ k : Fin 18, (cutAll cls (goodS.getD k.val [])).1 = none ∧ (cutAll cls (goodS.getD k.val [])).2.map (fun p => (p.1.kind, p.1.set, p.1.lo, p.1.hi, p.2)) = [(1, goodW.getD k.val 0, 0, 0, 0)] ∧ (∀ x ∈ goodS.getD k.val [], x < 256) ∧ (goodS.getD k.val []).length ≤ 1024 := by decide +kernel
def lastS : List Nat := [94, 40, 63, 58, 97, 124, 40, 98, 41, 41, 42, 43, 63, 123, 48, 125, 123, 51, 44, 55, 125, 36]
def lastK : List Nat := [7, 3, 1, 5, 2, 1, 4, 4, 6, 6, 6, 6, 6, 8]
theorem last_all : (cutAll cls lastS).1 = none ∧ (cutAll cls lastS).2.map (fun p => p.1.kind) = lastK ∧ (cutAll cls lastS).2.map (fun p => (p.1.lo, p.1.hi)) = [(0, 0), (0, 0), (0, 0), (0, 0), (0, 0), (0, 0), (0, 0), (0, 0), (0, -1), (1, -1), (0, 1), (0, 0), (3, 7), (0, 0)] := by decide +kernel
/-- what a new block holds -/
theorem lit_at {α : Type} (w : World) (L : List α) (f : α → Value) (d : α) (cs : Array Value) (t : TypeId) (h : cs.toList = L.map f) : ∀ k, k < L.length → (w.alloc (.cells cs t)).cell? ⟨w.heap.size, k, none⟩ = some (f (L.getD k d)) := by
  intro k hk
  have hcs : cs = (L.map f).toArray := by rw [← h]
  subst hcs
  rw [World.cell?_alloc_at _ _ _ _ rfl]
  simp [List.getElem?_map, List.getElem?_eq_getElem hk, List.getD_eq_getElem?_getD]
theorem zeros_cells : (madeCells (Value.int IntKind.u8 0).cells (1025 * 1)).toList = (List.replicate 1025 0).map u8v := by
  rw [List.map_replicate]
  exact toList_madeCells_one (.int .u8 0) 1025
theorem make_zeros (w : World) : ∃ w', (Instr.makeSlice 40 (.int .i64 1025) (.int .i64 1025)).run Try.prog w = .ok (.slice (some ⟨w.heap.size, 0, none⟩) 1025 1025) w' ∧ BytesAt w' (some ⟨w.heap.size, 0, none⟩) 1025 1025 (List.replicate 1025 0) ∧ Below w.heap.size w w' := by
  obtain ⟨i0, hi, hz0, hz1, hz2⟩ := info_parts info_u8
  obtain ⟨w', h1, h2, h3⟩ := run_makeSlice_full (P := Try.prog) w w.heap.size 40 5 i0 (.int .u8 0) 1 Try.underlying40 hi hz0 hz1 .i64 .i64 1025 (by decide) (by rw [hz2]; decide) (by decide) (Nat.le_refl _)
  refine ⟨w', h1, ?_, (Below.refl _ _).grown h3 (Nat.le_refl _) (fun k hk => by cases hk)⟩
  rw [zeros_cells] at h2
  have hl : (List.replicate 1025 0).length = 1025 := List.length_replicate
  have := bytesAt_of_owns (w' := w') (l := List.replicate 1025 0) (a := some ⟨w.heap.size, 0, none⟩) (cap := 1025) (base := w.heap.size) (by rw [hl]; exact h2) (by intro x hx; rw [List.eq_of_mem_replicate hx]; decide) (Below.refl _ _)
  rw [hl] at this
  exact this
theorem map_get {α β : Type} (L : List α) (f : α → β) (M : List β) (h : L.map f = M) (i : Nat) (hi : i < L.length) (d : β) : f L[i] = M.getD i d := by
  subst h
  rw [List.getD_eq_getElem?_getD, List.getElem?_map, List.getElem?_eq_getElem hi]; rfl
theorem toks_cells {w : World} {v : Value} {L : List (Tok × Nat)} (h : ToksAt w v L) (h0 : 0 < L.length) : ∃ g cap, v = .slice (some ⟨g, 0, none⟩) L.length cap ∧ L.length ≤ cap ∧ g < w.heap.size ∧ ∀ i (hi : i < L.length), Tok8 w g (i * 8) (L[i]).1 ((L[i]).2 : Nat) := by
  obtain ⟨a, cap, e, h⟩ := h
  rcases h with h | ⟨g, e1, e2, e3, e4⟩
  · rw [h] at h0; simp at h0
  · exact ⟨g, cap, by rw [e, e1], e2, e3, e4⟩
theorem bad_cut (k : Nat) (hk : k < 26) : ∃ L, cutAll cls (nats (ofNats (badS.getD k []))) = (some (badAt.getD k 0, badErr.getD k 0), L) ∧ (ofNats (badS.getD k [])).size ≤ 1024 := by
  obtain ⟨e1, e2, e3⟩ := bad_all ⟨k, hk⟩
  simp only at e1 e2 e3
  rw [nats_ofNats _ e2, ofNats_size]
  exact ⟨_, Prod.ext e1 rfl, e3⟩
theorem good_cut (k : Nat) (hk : k < 18) : cutAll cls (nats (ofNats (goodS.getD k []))) = (none, [(⟨1, goodW.getD k 0, 0, 0⟩, 0)]) ∧ (ofNats (goodS.getD k [])).size ≤ 1024 := by
  obtain ⟨e1, e2, e3, e4⟩ := good_all ⟨k, hk⟩
  simp only at e1 e2 e3 e4
  rw [nats_ofNats _ e3, ofNats_size]
  refine ⟨Prod.ext e1 ?_, e4⟩
  show (cutAll cls (goodS.getD k [])).2 = _
  match h : (cutAll cls (goodS.getD k [])).2, e2 with
  | [], e2 => simp at e2
  | [(⟨a, b, c, d⟩, e)], e2 =>
    simp at e2
    obtain ⟨rfl, rfl, rfl, rfl, rfl⟩ := e2
    rfl
  | _ :: _ :: _, e2 => simp at e2
set_option maxHeartbeats 20000000 in
set_option maxRecDepth 100000 in
theorem tokenKnown_walk (w : World) (hM : MaxAt w) : Calls Try.prog 3 #[] w fun e w' => e = .returned (.bool true) ∧ Below w.heap.size w w' := by
  obtain ⟨q0, hq0⟩ : ∃ q, q = setOf [93, 97] := ⟨_, rfl⟩
  obtain ⟨q1, hq1⟩ : ∃ q, q = ~~~q0 := ⟨_, rfl⟩
  obtain ⟨q2, hq2⟩ : ∃ q, q = setOf [97, 45] := ⟨_, rfl⟩
  obtain ⟨q4, hq4⟩ : ∃ q, q = setOf (upTo 97 99) := ⟨_, rfl⟩
  obtain ⟨q5, hq5⟩ : ∃ q, q = setOf [97, 94] := ⟨_, rfl⟩
  obtain ⟨q6a, hq6a⟩ : ∃ q, q = setOf (upTo 48 57) := ⟨_, rfl⟩
  obtain ⟨q6b, hq6b⟩ : ∃ q, q = setOf [120] := ⟨_, rfl⟩
  obtain ⟨q6, hq6⟩ : ∃ q, q = q6a ||| q6b := ⟨_, rfl⟩
  obtain ⟨q7, hq7⟩ : ∃ q, q = setOf [46] := ⟨_, rfl⟩
  obtain ⟨q8, hq8⟩ : ∃ q, q = setOf [91] := ⟨_, rfl⟩
  obtain ⟨q9, hq9⟩ : ∃ q, q = setOf [97, 91, 98] := ⟨_, rfl⟩
  obtain ⟨q10, hq10⟩ : ∃ q, q = setOf [92] := ⟨_, rfl⟩
  obtain ⟨q11, hq11⟩ : ∃ q, q = BitVec.allOnes 256 := ⟨_, rfl⟩
  obtain ⟨q13, hq13⟩ : ∃ q, q = setOf [125] := ⟨_, rfl⟩
  obtain ⟨q14, hq14⟩ : ∃ q, q = setOf [93] := ⟨_, rfl⟩
  obtain ⟨q15, hq15⟩ : ∃ q, q = setOf [45] := ⟨_, rfl⟩
  obtain ⟨q16, hq16⟩ : ∃ q, q = setOf (upTo 37 45) := ⟨_, rfl⟩
  obtain ⟨q17, hq17⟩ : ∃ q, q = setOf (upTo 93 97) := ⟨_, rfl⟩
  have hgw : goodW = [q0, q1, q2, q2, q4, q5, q6, q7, q8, q9, q10, q11, q7, q13, q14, q15, q16, q17] := by rw [hq17, hq16, hq15, hq14, hq13, hq11, hq10, hq9, hq8, hq7, hq6, hq6b, hq6a, hq5, hq4, hq2, hq1, hq0]; rfl
  have oq0 := fun (a : Option Addr) (cap : Nat) (w : World) h => of_any a 2 cap [93, 97] w h
  rw [← hq0] at oq0
  have oq2 := fun (a : Option Addr) (cap : Nat) (w : World) h => of_any a 2 cap [97, 45] w h
  rw [← hq2] at oq2
  have oq5 := fun (a : Option Addr) (cap : Nat) (w : World) h => of_any a 2 cap [97, 94] w h
  rw [← hq5] at oq5
  have oq6b := fun (a : Option Addr) (cap : Nat) (w : World) h => of_any a 1 cap [120] w h
  rw [← hq6b] at oq6b
  have oq7 := fun (a : Option Addr) (cap : Nat) (w : World) h => of_any a 1 cap [46] w h
  rw [← hq7] at oq7
  have oq8 := fun (a : Option Addr) (cap : Nat) (w : World) h => of_any a 1 cap [91] w h
  rw [← hq8] at oq8
  have oq9 := fun (a : Option Addr) (cap : Nat) (w : World) h => of_any a 3 cap [97, 91, 98] w h
  rw [← hq9] at oq9
  have oq10 := fun (a : Option Addr) (cap : Nat) (w : World) h => of_any a 1 cap [92] w h
  rw [← hq10] at oq10
  have oq13 := fun (a : Option Addr) (cap : Nat) (w : World) h => of_any a 1 cap [125] w h
  rw [← hq13] at oq13
  have oq14 := fun (a : Option Addr) (cap : Nat) (w : World) h => of_any a 1 cap [93] w h
  rw [← hq14] at oq14
  have oq15 := fun (a : Option Addr) (cap : Nat) (w : World) h => of_any a 1 cap [45] w h
  rw [← hq15] at oq15
  have n1 := not_any q0
  rw [← hq1] at n1
  have r4 := range_lit 97 99 97 99 rfl rfl (by decide) (by decide)
  rw [← hq4] at r4
  have r6 := range_lit 48 57 48 57 rfl rfl (by decide) (by decide)
  rw [← hq6a] at r6
  have r16 := range_lit 37 45 37 45 rfl rfl (by decide) (by decide)
  rw [← hq16] at r16
  have r17 := range_lit 93 97 93 97 rfl rfl (by decide) (by decide)
  rw [← hq17] at r17
  have or6 := or_any q6a q6b
  rw [← hq6] at or6
  have al11 := all_any
  rw [← hq11] at al11
  clear hq0 hq1 hq2 hq4 hq5 hq6a hq6b hq6 hq7 hq8 hq9 hq10 hq11 hq13 hq14 hq15 hq16 hq17
  obtain ⟨LL, hLL⟩ : ∃ LL, LL = (cutAll cls lastS).2 := ⟨_, rfl⟩
  have hn : nats ⟨#[94, 40, 63, 58, 97, 124, 40, 98, 41, 41, 42, 43, 63, 123, 48, 125, 123, 51, 44, 55, 125, 36]⟩ = lastS := by decide +kernel
  have hlast : cutAll cls (nats ⟨#[94, 40, 63, 58, 97, 124, 40, 98, 41, 41, 42, 43, 63, 123, 48, 125, 123, 51, 44, 55, 125, 36]⟩) = (none, LL) := by rw [hn, hLL]; exact Prod.ext last_all.1 rfl
  have lk : LL.map (fun p => p.1.kind) = lastK := by rw [hLL]; exact last_all.2.1
  have lb := last_all.2.2
  rw [← hLL] at lb
  have hl14 : LL.length = 14 := by have := congrArg List.length lk; rw [List.length_map] at this; rw [this]; rfl
  have hcutL := cut_good ⟨#[94, 40, 63, 58, 97, 124, 40, 98, 41, 41, 42, 43, 63, 123, 48, 125, 123, 51, 44, 55, 125, 36]⟩ (by decide) LL hlast
  clear hn hlast hLL
  go_enter Try.func3, Try.ntmps3
  go_wp2_with fail
  refine (awake4_any _ hM).mono ?_
  rintro e w1 ⟨rfl, hb1⟩
  go_wp2_with fail
  have f1 : ∀ k, k < 26 → (((w1.alloc (.cells #[.string ⟨#[97, 123]⟩, .string ⟨#[97, 123, 125]⟩, .string ⟨#[97, 123, 44, 50, 125]⟩, .string ⟨#[97, 123, 50, 44, 49, 125]⟩, .string ⟨#[97, 123, 50]⟩, .string ⟨#[97, 123, 50, 53, 54, 125]⟩, .string ⟨#[97, 123, 51, 48, 48, 120]⟩, .string ⟨#[97, 123, 51, 44, 51, 48, 48]⟩, .string ⟨#[92, 49]⟩, .string ⟨#[92, 57]⟩, .string ⟨#[92, 48]⟩, .string ⟨#[92, 110]⟩, .string ⟨#[120, 92]⟩, .string ⟨#[91]⟩, .string ⟨#[91, 93]⟩, .string ⟨#[91, 97]⟩, .string ⟨#[91, 98, 45, 97, 93]⟩, .string ⟨#[91, 91, 58, 119, 111, 114, 100, 58, 93, 93]⟩, .string ⟨#[91, 91, 58, 97, 108, 112, 104, 97, 58]⟩, .string ⟨#[91, 91, 46, 97, 46, 93, 93]⟩, .string ⟨#[91, 91, 61, 97, 61, 93, 93]⟩, .string ⟨#[91, 97, 45, 99, 45, 101, 93]⟩, .string ⟨#[91, 91, 58, 100, 105, 103, 105, 116, 58, 93, 45, 122, 93]⟩, .string ⟨#[91, 97, 45, 91, 58, 100, 105, 103, 105, 116, 58, 93, 93]⟩, .string ⟨#[91, 97, 45, 91, 46, 120, 46, 93, 93]⟩, .string ⟨#[91, 94, 0, 45, 255, 93]⟩] 9)).alloc (.cells #[.int .i64 1, .int .i64 1, .int .i64 1, .int .i64 1, .int .i64 1, .int .i64 1, .int .i64 1, .int .i64 1, .int .i64 0, .int .i64 0, .int .i64 0, .int .i64 0, .int .i64 1, .int .i64 0, .int .i64 0, .int .i64 0, .int .i64 0, .int .i64 0, .int .i64 0, .int .i64 0, .int .i64 0, .int .i64 0, .int .i64 0, .int .i64 0, .int .i64 0, .int .i64 0] 3)).alloc (.cells #[.int .i64 2, .int .i64 2, .int .i64 2, .int .i64 2, .int .i64 2, .int .i64 4, .int .i64 4, .int .i64 4, .int .i64 3, .int .i64 3, .int .i64 2, .int .i64 2, .int .i64 2, .int .i64 2, .int .i64 2, .int .i64 2, .int .i64 2, .int .i64 2, .int .i64 2, .int .i64 3, .int .i64 3, .int .i64 2, .int .i64 2, .int .i64 2, .int .i64 3, .int .i64 2] 25)).cell? ⟨w1.heap.size, k, none⟩ = some (.string (ofNats (badS.getD k []))) := fun k hk => by
    rw [cell_alloc_old (by simp; omega), cell_alloc_old (by simp)]
    exact lit_at w1 badS (fun l => .string (ofNats l)) [] _ _ rfl k hk
  have f2 : ∀ k, k < 26 → (((w1.alloc (.cells #[.string ⟨#[97, 123]⟩, .string ⟨#[97, 123, 125]⟩, .string ⟨#[97, 123, 44, 50, 125]⟩, .string ⟨#[97, 123, 50, 44, 49, 125]⟩, .string ⟨#[97, 123, 50]⟩, .string ⟨#[97, 123, 50, 53, 54, 125]⟩, .string ⟨#[97, 123, 51, 48, 48, 120]⟩, .string ⟨#[97, 123, 51, 44, 51, 48, 48]⟩, .string ⟨#[92, 49]⟩, .string ⟨#[92, 57]⟩, .string ⟨#[92, 48]⟩, .string ⟨#[92, 110]⟩, .string ⟨#[120, 92]⟩, .string ⟨#[91]⟩, .string ⟨#[91, 93]⟩, .string ⟨#[91, 97]⟩, .string ⟨#[91, 98, 45, 97, 93]⟩, .string ⟨#[91, 91, 58, 119, 111, 114, 100, 58, 93, 93]⟩, .string ⟨#[91, 91, 58, 97, 108, 112, 104, 97, 58]⟩, .string ⟨#[91, 91, 46, 97, 46, 93, 93]⟩, .string ⟨#[91, 91, 61, 97, 61, 93, 93]⟩, .string ⟨#[91, 97, 45, 99, 45, 101, 93]⟩, .string ⟨#[91, 91, 58, 100, 105, 103, 105, 116, 58, 93, 45, 122, 93]⟩, .string ⟨#[91, 97, 45, 91, 58, 100, 105, 103, 105, 116, 58, 93, 93]⟩, .string ⟨#[91, 97, 45, 91, 46, 120, 46, 93, 93]⟩, .string ⟨#[91, 94, 0, 45, 255, 93]⟩] 9)).alloc (.cells #[.int .i64 1, .int .i64 1, .int .i64 1, .int .i64 1, .int .i64 1, .int .i64 1, .int .i64 1, .int .i64 1, .int .i64 0, .int .i64 0, .int .i64 0, .int .i64 0, .int .i64 1, .int .i64 0, .int .i64 0, .int .i64 0, .int .i64 0, .int .i64 0, .int .i64 0, .int .i64 0, .int .i64 0, .int .i64 0, .int .i64 0, .int .i64 0, .int .i64 0, .int .i64 0] 3)).alloc (.cells #[.int .i64 2, .int .i64 2, .int .i64 2, .int .i64 2, .int .i64 2, .int .i64 4, .int .i64 4, .int .i64 4, .int .i64 3, .int .i64 3, .int .i64 2, .int .i64 2, .int .i64 2, .int .i64 2, .int .i64 2, .int .i64 2, .int .i64 2, .int .i64 2, .int .i64 2, .int .i64 3, .int .i64 3, .int .i64 2, .int .i64 2, .int .i64 2, .int .i64 3, .int .i64 2] 25)).cell? ⟨w1.heap.size + 1, k, none⟩ = some (.int .i64 (badAt.getD k 0 : Nat)) := fun k hk => by
    rw [cell_alloc_old (by simp)]
    have := lit_at (w1.alloc (.cells #[.string ⟨#[97, 123]⟩, .string ⟨#[97, 123, 125]⟩, .string ⟨#[97, 123, 44, 50, 125]⟩, .string ⟨#[97, 123, 50, 44, 49, 125]⟩, .string ⟨#[97, 123, 50]⟩, .string ⟨#[97, 123, 50, 53, 54, 125]⟩, .string ⟨#[97, 123, 51, 48, 48, 120]⟩, .string ⟨#[97, 123, 51, 44, 51, 48, 48]⟩, .string ⟨#[92, 49]⟩, .string ⟨#[92, 57]⟩, .string ⟨#[92, 48]⟩, .string ⟨#[92, 110]⟩, .string ⟨#[120, 92]⟩, .string ⟨#[91]⟩, .string ⟨#[91, 93]⟩, .string ⟨#[91, 97]⟩, .string ⟨#[91, 98, 45, 97, 93]⟩, .string ⟨#[91, 91, 58, 119, 111, 114, 100, 58, 93, 93]⟩, .string ⟨#[91, 91, 58, 97, 108, 112, 104, 97, 58]⟩, .string ⟨#[91, 91, 46, 97, 46, 93, 93]⟩, .string ⟨#[91, 91, 61, 97, 61, 93, 93]⟩, .string ⟨#[91, 97, 45, 99, 45, 101, 93]⟩, .string ⟨#[91, 91, 58, 100, 105, 103, 105, 116, 58, 93, 45, 122, 93]⟩, .string ⟨#[91, 97, 45, 91, 58, 100, 105, 103, 105, 116, 58, 93, 93]⟩, .string ⟨#[91, 97, 45, 91, 46, 120, 46, 93, 93]⟩, .string ⟨#[91, 94, 0, 45, 255, 93]⟩] 9)) badAt (fun n => .int .i64 (n : Nat)) 0 #[.int .i64 1, .int .i64 1, .int .i64 1, .int .i64 1, .int .i64 1, .int .i64 1, .int .i64 1, .int .i64 1, .int .i64 0, .int .i64 0, .int .i64 0, .int .i64 0, .int .i64 1, .int .i64 0, .int .i64 0, .int .i64 0, .int .i64 0, .int .i64 0, .int .i64 0, .int .i64 0, .int .i64 0, .int .i64 0, .int .i64 0, .int .i64 0, .int .i64 0, .int .i64 0] 3 rfl k hk
    simpa using this
  have f3 : ∀ k, k < 26 → (((w1.alloc (.cells #[.string ⟨#[97, 123]⟩, .string ⟨#[97, 123, 125]⟩, .string ⟨#[97, 123, 44, 50, 125]⟩, .string ⟨#[97, 123, 50, 44, 49, 125]⟩, .string ⟨#[97, 123, 50]⟩, .string ⟨#[97, 123, 50, 53, 54, 125]⟩, .string ⟨#[97, 123, 51, 48, 48, 120]⟩, .string ⟨#[97, 123, 51, 44, 51, 48, 48]⟩, .string ⟨#[92, 49]⟩, .string ⟨#[92, 57]⟩, .string ⟨#[92, 48]⟩, .string ⟨#[92, 110]⟩, .string ⟨#[120, 92]⟩, .string ⟨#[91]⟩, .string ⟨#[91, 93]⟩, .string ⟨#[91, 97]⟩, .string ⟨#[91, 98, 45, 97, 93]⟩, .string ⟨#[91, 91, 58, 119, 111, 114, 100, 58, 93, 93]⟩, .string ⟨#[91, 91, 58, 97, 108, 112, 104, 97, 58]⟩, .string ⟨#[91, 91, 46, 97, 46, 93, 93]⟩, .string ⟨#[91, 91, 61, 97, 61, 93, 93]⟩, .string ⟨#[91, 97, 45, 99, 45, 101, 93]⟩, .string ⟨#[91, 91, 58, 100, 105, 103, 105, 116, 58, 93, 45, 122, 93]⟩, .string ⟨#[91, 97, 45, 91, 58, 100, 105, 103, 105, 116, 58, 93, 93]⟩, .string ⟨#[91, 97, 45, 91, 46, 120, 46, 93, 93]⟩, .string ⟨#[91, 94, 0, 45, 255, 93]⟩] 9)).alloc (.cells #[.int .i64 1, .int .i64 1, .int .i64 1, .int .i64 1, .int .i64 1, .int .i64 1, .int .i64 1, .int .i64 1, .int .i64 0, .int .i64 0, .int .i64 0, .int .i64 0, .int .i64 1, .int .i64 0, .int .i64 0, .int .i64 0, .int .i64 0, .int .i64 0, .int .i64 0, .int .i64 0, .int .i64 0, .int .i64 0, .int .i64 0, .int .i64 0, .int .i64 0, .int .i64 0] 3)).alloc (.cells #[.int .i64 2, .int .i64 2, .int .i64 2, .int .i64 2, .int .i64 2, .int .i64 4, .int .i64 4, .int .i64 4, .int .i64 3, .int .i64 3, .int .i64 2, .int .i64 2, .int .i64 2, .int .i64 2, .int .i64 2, .int .i64 2, .int .i64 2, .int .i64 2, .int .i64 2, .int .i64 3, .int .i64 3, .int .i64 2, .int .i64 2, .int .i64 2, .int .i64 3, .int .i64 2] 25)).cell? ⟨w1.heap.size + 1 + 1, k, none⟩ = some (.int .i64 (badErr.getD k 0 : Nat)) := fun k hk => by
    have := lit_at ((w1.alloc (.cells #[.string ⟨#[97, 123]⟩, .string ⟨#[97, 123, 125]⟩, .string ⟨#[97, 123, 44, 50, 125]⟩, .string ⟨#[97, 123, 50, 44, 49, 125]⟩, .string ⟨#[97, 123, 50]⟩, .string ⟨#[97, 123, 50, 53, 54, 125]⟩, .string ⟨#[97, 123, 51, 48, 48, 120]⟩, .string ⟨#[97, 123, 51, 44, 51, 48, 48]⟩, .string ⟨#[92, 49]⟩, .string ⟨#[92, 57]⟩, .string ⟨#[92, 48]⟩, .string ⟨#[92, 110]⟩, .string ⟨#[120, 92]⟩, .string ⟨#[91]⟩, .string ⟨#[91, 93]⟩, .string ⟨#[91, 97]⟩, .string ⟨#[91, 98, 45, 97, 93]⟩, .string ⟨#[91, 91, 58, 119, 111, 114, 100, 58, 93, 93]⟩, .string ⟨#[91, 91, 58, 97, 108, 112, 104, 97, 58]⟩, .string ⟨#[91, 91, 46, 97, 46, 93, 93]⟩, .string ⟨#[91, 91, 61, 97, 61, 93, 93]⟩, .string ⟨#[91, 97, 45, 99, 45, 101, 93]⟩, .string ⟨#[91, 91, 58, 100, 105, 103, 105, 116, 58, 93, 45, 122, 93]⟩, .string ⟨#[91, 97, 45, 91, 58, 100, 105, 103, 105, 116, 58, 93, 93]⟩, .string ⟨#[91, 97, 45, 91, 46, 120, 46, 93, 93]⟩, .string ⟨#[91, 94, 0, 45, 255, 93]⟩] 9)).alloc (.cells #[.int .i64 1, .int .i64 1, .int .i64 1, .int .i64 1, .int .i64 1, .int .i64 1, .int .i64 1, .int .i64 1, .int .i64 0, .int .i64 0, .int .i64 0, .int .i64 0, .int .i64 1, .int .i64 0, .int .i64 0, .int .i64 0, .int .i64 0, .int .i64 0, .int .i64 0, .int .i64 0, .int .i64 0, .int .i64 0, .int .i64 0, .int .i64 0, .int .i64 0, .int .i64 0] 3)) badErr (fun n => .int .i64 (n : Nat)) 0 #[.int .i64 2, .int .i64 2, .int .i64 2, .int .i64 2, .int .i64 2, .int .i64 4, .int .i64 4, .int .i64 4, .int .i64 3, .int .i64 3, .int .i64 2, .int .i64 2, .int .i64 2, .int .i64 2, .int .i64 2, .int .i64 2, .int .i64 2, .int .i64 2, .int .i64 2, .int .i64 3, .int .i64 3, .int .i64 2, .int .i64 2, .int .i64 2, .int .i64 3, .int .i64 2] 25 rfl k hk
    simpa using this
  have B2 : Below w.heap.size w (((w1.alloc (.cells #[.string ⟨#[97, 123]⟩, .string ⟨#[97, 123, 125]⟩, .string ⟨#[97, 123, 44, 50, 125]⟩, .string ⟨#[97, 123, 50, 44, 49, 125]⟩, .string ⟨#[97, 123, 50]⟩, .string ⟨#[97, 123, 50, 53, 54, 125]⟩, .string ⟨#[97, 123, 51, 48, 48, 120]⟩, .string ⟨#[97, 123, 51, 44, 51, 48, 48]⟩, .string ⟨#[92, 49]⟩, .string ⟨#[92, 57]⟩, .string ⟨#[92, 48]⟩, .string ⟨#[92, 110]⟩, .string ⟨#[120, 92]⟩, .string ⟨#[91]⟩, .string ⟨#[91, 93]⟩, .string ⟨#[91, 97]⟩, .string ⟨#[91, 98, 45, 97, 93]⟩, .string ⟨#[91, 91, 58, 119, 111, 114, 100, 58, 93, 93]⟩, .string ⟨#[91, 91, 58, 97, 108, 112, 104, 97, 58]⟩, .string ⟨#[91, 91, 46, 97, 46, 93, 93]⟩, .string ⟨#[91, 91, 61, 97, 61, 93, 93]⟩, .string ⟨#[91, 97, 45, 99, 45, 101, 93]⟩, .string ⟨#[91, 91, 58, 100, 105, 103, 105, 116, 58, 93, 45, 122, 93]⟩, .string ⟨#[91, 97, 45, 91, 58, 100, 105, 103, 105, 116, 58, 93, 93]⟩, .string ⟨#[91, 97, 45, 91, 46, 120, 46, 93, 93]⟩, .string ⟨#[91, 94, 0, 45, 255, 93]⟩] 9)).alloc (.cells #[.int .i64 1, .int .i64 1, .int .i64 1, .int .i64 1, .int .i64 1, .int .i64 1, .int .i64 1, .int .i64 1, .int .i64 0, .int .i64 0, .int .i64 0, .int .i64 0, .int .i64 1, .int .i64 0, .int .i64 0, .int .i64 0, .int .i64 0, .int .i64 0, .int .i64 0, .int .i64 0, .int .i64 0, .int .i64 0, .int .i64 0, .int .i64 0, .int .i64 0, .int .i64 0] 3)).alloc (.cells #[.int .i64 2, .int .i64 2, .int .i64 2, .int .i64 2, .int .i64 2, .int .i64 4, .int .i64 4, .int .i64 4, .int .i64 3, .int .i64 3, .int .i64 2, .int .i64 2, .int .i64 2, .int .i64 2, .int .i64 2, .int .i64 2, .int .i64 2, .int .i64 2, .int .i64 2, .int .i64 3, .int .i64 3, .int .i64 2, .int .i64 2, .int .i64 2, .int .i64 3, .int .i64 2] 25)) := ((hb1.alloc hb1.size _).alloc (by have := hb1.size; simp; omega) _).alloc (by have := hb1.size; simp; omega) _
  have hz2 : w1.heap.size + 1 + 1 < (((w1.alloc (.cells #[.string ⟨#[97, 123]⟩, .string ⟨#[97, 123, 125]⟩, .string ⟨#[97, 123, 44, 50, 125]⟩, .string ⟨#[97, 123, 50, 44, 49, 125]⟩, .string ⟨#[97, 123, 50]⟩, .string ⟨#[97, 123, 50, 53, 54, 125]⟩, .string ⟨#[97, 123, 51, 48, 48, 120]⟩, .string ⟨#[97, 123, 51, 44, 51, 48, 48]⟩, .string ⟨#[92, 49]⟩, .string ⟨#[92, 57]⟩, .string ⟨#[92, 48]⟩, .string ⟨#[92, 110]⟩, .string ⟨#[120, 92]⟩, .string ⟨#[91]⟩, .string ⟨#[91, 93]⟩, .string ⟨#[91, 97]⟩, .string ⟨#[91, 98, 45, 97, 93]⟩, .string ⟨#[91, 91, 58, 119, 111, 114, 100, 58, 93, 93]⟩, .string ⟨#[91, 91, 58, 97, 108, 112, 104, 97, 58]⟩, .string ⟨#[91, 91, 46, 97, 46, 93, 93]⟩, .string ⟨#[91, 91, 61, 97, 61, 93, 93]⟩, .string ⟨#[91, 97, 45, 99, 45, 101, 93]⟩, .string ⟨#[91, 91, 58, 100, 105, 103, 105, 116, 58, 93, 45, 122, 93]⟩, .string ⟨#[91, 97, 45, 91, 58, 100, 105, 103, 105, 116, 58, 93, 93]⟩, .string ⟨#[91, 97, 45, 91, 46, 120, 46, 93, 93]⟩, .string ⟨#[91, 94, 0, 45, 255, 93]⟩] 9)).alloc (.cells #[.int .i64 1, .int .i64 1, .int .i64 1, .int .i64 1, .int .i64 1, .int .i64 1, .int .i64 1, .int .i64 1, .int .i64 0, .int .i64 0, .int .i64 0, .int .i64 0, .int .i64 1, .int .i64 0, .int .i64 0, .int .i64 0, .int .i64 0, .int .i64 0, .int .i64 0, .int .i64 0, .int .i64 0, .int .i64 0, .int .i64 0, .int .i64 0, .int .i64 0, .int .i64 0] 3)).alloc (.cells #[.int .i64 2, .int .i64 2, .int .i64 2, .int .i64 2, .int .i64 2, .int .i64 4, .int .i64 4, .int .i64 4, .int .i64 3, .int .i64 3, .int .i64 2, .int .i64 2, .int .i64 2, .int .i64 2, .int .i64 2, .int .i64 2, .int .i64 2, .int .i64 2, .int .i64 2, .int .i64 3, .int .i64 3, .int .i64 2, .int .i64 2, .int .i64 2, .int .i64 3, .int .i64 2] 25)).heap.size := by simp
  generalize ((w1.alloc (.cells #[.string ⟨#[97, 123]⟩, .string ⟨#[97, 123, 125]⟩, .string ⟨#[97, 123, 44, 50, 125]⟩, .string ⟨#[97, 123, 50, 44, 49, 125]⟩, .string ⟨#[97, 123, 50]⟩, .string ⟨#[97, 123, 50, 53, 54, 125]⟩, .string ⟨#[97, 123, 51, 48, 48, 120]⟩, .string ⟨#[97, 123, 51, 44, 51, 48, 48]⟩, .string ⟨#[92, 49]⟩, .string ⟨#[92, 57]⟩, .string ⟨#[92, 48]⟩, .string ⟨#[92, 110]⟩, .string ⟨#[120, 92]⟩, .string ⟨#[91]⟩, .string ⟨#[91, 93]⟩, .string ⟨#[91, 97]⟩, .string ⟨#[91, 98, 45, 97, 93]⟩, .string ⟨#[91, 91, 58, 119, 111, 114, 100, 58, 93, 93]⟩, .string ⟨#[91, 91, 58, 97, 108, 112, 104, 97, 58]⟩, .string ⟨#[91, 91, 46, 97, 46, 93, 93]⟩, .string ⟨#[91, 91, 61, 97, 61, 93, 93]⟩, .string ⟨#[91, 97, 45, 99, 45, 101, 93]⟩, .string ⟨#[91, 91, 58, 100, 105, 103, 105, 116, 58, 93, 45, 122, 93]⟩, .string ⟨#[91, 97, 45, 91, 58, 100, 105, 103, 105, 116, 58, 93, 93]⟩, .string ⟨#[91, 97, 45, 91, 46, 120, 46, 93, 93]⟩, .string ⟨#[91, 94, 0, 45, 255, 93]⟩] 9)).alloc (.cells #[.int .i64 1, .int .i64 1, .int .i64 1, .int .i64 1, .int .i64 1, .int .i64 1, .int .i64 1, .int .i64 1, .int .i64 0, .int .i64 0, .int .i64 0, .int .i64 0, .int .i64 1, .int .i64 0, .int .i64 0, .int .i64 0, .int .i64 0, .int .i64 0, .int .i64 0, .int .i64 0, .int .i64 0, .int .i64 0, .int .i64 0, .int .i64 0, .int .i64 0, .int .i64 0] 3)).alloc (.cells #[.int .i64 2, .int .i64 2, .int .i64 2, .int .i64 2, .int .i64 2, .int .i64 4, .int .i64 4, .int .i64 4, .int .i64 3, .int .i64 3, .int .i64 2, .int .i64 2, .int .i64 2, .int .i64 2, .int .i64 2, .int .i64 2, .int .i64 2, .int .i64 2, .int .i64 2, .int .i64 3, .int .i64 3, .int .i64 2, .int .i64 2, .int .i64 2, .int .i64 3, .int .i64 2] 25) = w2 at f1 f2 f3 B2 hz2 ⊢
  go_loopw [4] (fun i wr => ∃ k : Nat, i = .int .i64 k ∧ k ≤ 26 ∧ Below w2.heap.size w2 wr) (fun i _ => 26 - (intOf i).toNat)
  case atStart => exact ⟨0, rfl, by omega, Below.refl _ _⟩
  case round =>
    obtain ⟨k, rfl, hk, hr⟩ := hrel
    have F1 := Lib.hid f1
    have F2 := Lib.hid f2
    have F3 := Lib.hid f3
    clear f1 f2 f3
    by_cases hkn : k < 26
    · have hd : decide ((k : Int) < 26) = true := by simp; omega
      obtain ⟨LL, hc, hsz⟩ := bad_cut k hkn
      have hcut := cut_refused _ hsz _ _ hc
      simp only at hcut
      have c1 : wr.cell? ⟨w1.heap.size, k, none⟩ = _ := (hr.cell (p := ⟨w1.heap.size, k, none⟩) (show w1.heap.size < w2.heap.size by omega)).trans (F1.out k hkn)
      have c2 : wr.cell? ⟨w1.heap.size + 1, k, none⟩ = _ := (hr.cell (p := ⟨w1.heap.size + 1, k, none⟩) (show w1.heap.size + 1 < w2.heap.size by omega)).trans (F2.out k hkn)
      have c3 : wr.cell? ⟨w1.heap.size + 1 + 1, k, none⟩ = _ := (hr.cell (p := ⟨w1.heap.size + 1 + 1, k, none⟩) (show w1.heap.size + 1 + 1 < w2.heap.size by omega)).trans (F3.out k hkn)
      generalize ofNats (badS.getD k []) = s at hcut c1
      generalize badAt.getD k 0 = pa at hcut c2
      generalize badErr.getD k 0 = pe at hcut c3
      have hz := hr.size
      have Mr := maxAt_below hM (B2.trans (hr.mono B2.size))
      clear hc hsz
      go_wp2_with fail
      refine (hcut _ Mr).mono ?_
      rintro e w3 ⟨rfl, hb3⟩
      have d2 := (hb3.cell (p := ⟨w1.heap.size + 1, k, none⟩) (show w1.heap.size + 1 < wr.heap.size by omega)).trans c2
      have d3 := (hb3.cell (p := ⟨w1.heap.size + 1 + 1, k, none⟩) (show w1.heap.size + 1 + 1 < wr.heap.size by omega)).trans c3
      have h3 := hr.trans (hb3.mono hr.size)
      clear c1 c2 c3 hcut
      go_wp2_with fail
      go_roundw
      case rel => exact ⟨k + 1, by go_num, by omega, h3⟩
      case measure => simp [intOf]; omega
    · obtain rfl : k = 26 := by omega
      have B3 : Below w.heap.size w wr := B2.trans (hr.mono B2.size)
      clear F1 F2 F3 hr B2 hz2 hkn hk
      go_wp2_with fail
      have fs : ∀ k, k < 18 → (wr.alloc (.cells #[.string ⟨#[91, 93, 97, 93]⟩, .string ⟨#[91, 94, 93, 97, 93]⟩, .string ⟨#[91, 97, 45, 93]⟩, .string ⟨#[91, 45, 97, 93]⟩, .string ⟨#[91, 97, 45, 99, 93]⟩, .string ⟨#[91, 97, 94, 93]⟩, .string ⟨#[91, 91, 58, 100, 105, 103, 105, 116, 58, 93, 120, 93]⟩, .string ⟨#[91, 46, 93]⟩, .string ⟨#[91, 91, 93]⟩, .string ⟨#[91, 97, 91, 98, 93]⟩, .string ⟨#[91, 92, 93]⟩, .string ⟨#[46]⟩, .string ⟨#[92, 46]⟩, .string ⟨#[125]⟩, .string ⟨#[93]⟩, .string ⟨#[45]⟩, .string ⟨#[91, 37, 45, 45, 93]⟩, .string ⟨#[91, 93, 45, 97, 93]⟩] 9)).cell? ⟨wr.heap.size, k, none⟩ = some (.string (ofNats (goodS.getD k []))) := fun k hk => lit_at wr goodS (fun l => .string (ofNats l)) [] _ _ rfl k hk
      have B4 : Below w.heap.size w (wr.alloc (.cells #[.string ⟨#[91, 93, 97, 93]⟩, .string ⟨#[91, 94, 93, 97, 93]⟩, .string ⟨#[91, 97, 45, 93]⟩, .string ⟨#[91, 45, 97, 93]⟩, .string ⟨#[91, 97, 45, 99, 93]⟩, .string ⟨#[91, 97, 94, 93]⟩, .string ⟨#[91, 91, 58, 100, 105, 103, 105, 116, 58, 93, 120, 93]⟩, .string ⟨#[91, 46, 93]⟩, .string ⟨#[91, 91, 93]⟩, .string ⟨#[91, 97, 91, 98, 93]⟩, .string ⟨#[91, 92, 93]⟩, .string ⟨#[46]⟩, .string ⟨#[92, 46]⟩, .string ⟨#[125]⟩, .string ⟨#[93]⟩, .string ⟨#[45]⟩, .string ⟨#[91, 37, 45, 45, 93]⟩, .string ⟨#[91, 93, 45, 97, 93]⟩] 9)) := B3.alloc B3.size _
      have hza : wr.heap.size + 1 = (wr.alloc (.cells #[.string ⟨#[91, 93, 97, 93]⟩, .string ⟨#[91, 94, 93, 97, 93]⟩, .string ⟨#[91, 97, 45, 93]⟩, .string ⟨#[91, 45, 97, 93]⟩, .string ⟨#[91, 97, 45, 99, 93]⟩, .string ⟨#[91, 97, 94, 93]⟩, .string ⟨#[91, 91, 58, 100, 105, 103, 105, 116, 58, 93, 120, 93]⟩, .string ⟨#[91, 46, 93]⟩, .string ⟨#[91, 91, 93]⟩, .string ⟨#[91, 97, 91, 98, 93]⟩, .string ⟨#[91, 92, 93]⟩, .string ⟨#[46]⟩, .string ⟨#[92, 46]⟩, .string ⟨#[125]⟩, .string ⟨#[93]⟩, .string ⟨#[45]⟩, .string ⟨#[91, 37, 45, 45, 93]⟩, .string ⟨#[91, 93, 45, 97, 93]⟩] 9)).heap.size := by simp
      generalize wr.alloc (.cells #[.string ⟨#[91, 93, 97, 93]⟩, .string ⟨#[91, 94, 93, 97, 93]⟩, .string ⟨#[91, 97, 45, 93]⟩, .string ⟨#[91, 45, 97, 93]⟩, .string ⟨#[91, 97, 45, 99, 93]⟩, .string ⟨#[91, 97, 94, 93]⟩, .string ⟨#[91, 91, 58, 100, 105, 103, 105, 116, 58, 93, 120, 93]⟩, .string ⟨#[91, 46, 93]⟩, .string ⟨#[91, 91, 93]⟩, .string ⟨#[91, 97, 91, 98, 93]⟩, .string ⟨#[91, 92, 93]⟩, .string ⟨#[46]⟩, .string ⟨#[92, 46]⟩, .string ⟨#[125]⟩, .string ⟨#[93]⟩, .string ⟨#[45]⟩, .string ⟨#[91, 37, 45, 45, 93]⟩, .string ⟨#[91, 93, 45, 97, 93]⟩] 9) = wa at fs B4 hza ⊢
      generalize wr.heap.size = gs at fs hza ⊢
      rw [hza]
      have hzr : gs < wa.heap.size := by omega
      clear hza
      have FS := Lib.hid fs
      clear fs B3
      have T4 : Below wa.heap.size wa wa := Below.refl _ _
      refine (oq0 _ _ _ (bytes_lit wa [93, 97] #[.int .u8 93, .int .u8 97] rfl (by decide) (by decide))).mono ?_
      rintro e v0 ⟨rfl, hb⟩
      have T5 : Below wa.heap.size wa v0 := (T4.alloc T4.size _).trans (hb.mono (Nat.le_trans T4.size (by simp)))
      clear hb T4
      go_wp2_with fail
      refine (oq0 _ _ _ (bytes_lit v0 [93, 97] #[.int .u8 93, .int .u8 97] rfl (by decide) (by decide))).mono ?_
      rintro e v1 ⟨rfl, hb⟩
      have T6 : Below wa.heap.size wa v1 := (T5.alloc T5.size _).trans (hb.mono (Nat.le_trans T5.size (by simp)))
      clear hb T5
      go_wp2_with fail
      refine (n1 _).mono ?_
      rintro e v2 ⟨rfl, hb⟩
      have T7 : Below wa.heap.size wa v2 := T6.trans (hb.mono T6.size)
      clear hb T6
      go_wp2_with fail
      refine (oq2 _ _ _ (bytes_lit v2 [97, 45] #[.int .u8 97, .int .u8 45] rfl (by decide) (by decide))).mono ?_
      rintro e v3 ⟨rfl, hb⟩
      have T8 : Below wa.heap.size wa v3 := (T7.alloc T7.size _).trans (hb.mono (Nat.le_trans T7.size (by simp)))
      clear hb T7
      go_wp2_with fail
      refine (oq2 _ _ _ (bytes_lit v3 [97, 45] #[.int .u8 97, .int .u8 45] rfl (by decide) (by decide))).mono ?_
      rintro e v4 ⟨rfl, hb⟩
      have T9 : Below wa.heap.size wa v4 := (T8.alloc T8.size _).trans (hb.mono (Nat.le_trans T8.size (by simp)))
      clear hb T8
      go_wp2_with fail
      refine (r4 _).mono ?_
      rintro e v5 ⟨rfl, hb⟩
      have T10 : Below wa.heap.size wa v5 := T9.trans (hb.mono T9.size)
      clear hb T9
      go_wp2_with fail
      refine (oq5 _ _ _ (bytes_lit v5 [97, 94] #[.int .u8 97, .int .u8 94] rfl (by decide) (by decide))).mono ?_
      rintro e v6 ⟨rfl, hb⟩
      have T11 : Below wa.heap.size wa v6 := (T10.alloc T10.size _).trans (hb.mono (Nat.le_trans T10.size (by simp)))
      clear hb T10
      go_wp2_with fail
      refine (r6 _).mono ?_
      rintro e v7 ⟨rfl, hb⟩
      have T12 : Below wa.heap.size wa v7 := T11.trans (hb.mono T11.size)
      clear hb T11
      go_wp2_with fail
      refine (oq6b _ _ _ (bytes_lit v7 [120] #[.int .u8 120] rfl (by decide) (by decide))).mono ?_
      rintro e v8 ⟨rfl, hb⟩
      have T13 : Below wa.heap.size wa v8 := (T12.alloc T12.size _).trans (hb.mono (Nat.le_trans T12.size (by simp)))
      clear hb T12
      go_wp2_with fail
      refine (or6 _).mono ?_
      rintro e v9 ⟨rfl, hb⟩
      have T14 : Below wa.heap.size wa v9 := T13.trans (hb.mono T13.size)
      clear hb T13
      go_wp2_with fail
      refine (oq7 _ _ _ (bytes_lit v9 [46] #[.int .u8 46] rfl (by decide) (by decide))).mono ?_
      rintro e v10 ⟨rfl, hb⟩
      have T15 : Below wa.heap.size wa v10 := (T14.alloc T14.size _).trans (hb.mono (Nat.le_trans T14.size (by simp)))
      clear hb T14
      go_wp2_with fail
      refine (oq8 _ _ _ (bytes_lit v10 [91] #[.int .u8 91] rfl (by decide) (by decide))).mono ?_
      rintro e v11 ⟨rfl, hb⟩
      have T16 : Below wa.heap.size wa v11 := (T15.alloc T15.size _).trans (hb.mono (Nat.le_trans T15.size (by simp)))
      clear hb T15
      go_wp2_with fail
      refine (oq9 _ _ _ (bytes_lit v11 [97, 91, 98] #[.int .u8 97, .int .u8 91, .int .u8 98] rfl (by decide) (by decide))).mono ?_
      rintro e v12 ⟨rfl, hb⟩
      have T17 : Below wa.heap.size wa v12 := (T16.alloc T16.size _).trans (hb.mono (Nat.le_trans T16.size (by simp)))
      clear hb T16
      go_wp2_with fail
      refine (oq10 _ _ _ (bytes_lit v12 [92] #[.int .u8 92] rfl (by decide) (by decide))).mono ?_
      rintro e v13 ⟨rfl, hb⟩
      have T18 : Below wa.heap.size wa v13 := (T17.alloc T17.size _).trans (hb.mono (Nat.le_trans T17.size (by simp)))
      clear hb T17
      go_wp2_with fail
      refine (al11 _).mono ?_
      rintro e v14 ⟨rfl, hb⟩
      have T19 : Below wa.heap.size wa v14 := T18.trans (hb.mono T18.size)
      clear hb T18
      go_wp2_with fail
      refine (oq7 _ _ _ (bytes_lit v14 [46] #[.int .u8 46] rfl (by decide) (by decide))).mono ?_
      rintro e v15 ⟨rfl, hb⟩
      have T20 : Below wa.heap.size wa v15 := (T19.alloc T19.size _).trans (hb.mono (Nat.le_trans T19.size (by simp)))
      clear hb T19
      go_wp2_with fail
      refine (oq13 _ _ _ (bytes_lit v15 [125] #[.int .u8 125] rfl (by decide) (by decide))).mono ?_
      rintro e v16 ⟨rfl, hb⟩
      have T21 : Below wa.heap.size wa v16 := (T20.alloc T20.size _).trans (hb.mono (Nat.le_trans T20.size (by simp)))
      clear hb T20
      go_wp2_with fail
      refine (oq14 _ _ _ (bytes_lit v16 [93] #[.int .u8 93] rfl (by decide) (by decide))).mono ?_
      rintro e v17 ⟨rfl, hb⟩
      have T22 : Below wa.heap.size wa v17 := (T21.alloc T21.size _).trans (hb.mono (Nat.le_trans T21.size (by simp)))
      clear hb T21
      go_wp2_with fail
      refine (oq15 _ _ _ (bytes_lit v17 [45] #[.int .u8 45] rfl (by decide) (by decide))).mono ?_
      rintro e v18 ⟨rfl, hb⟩
      have T23 : Below wa.heap.size wa v18 := (T22.alloc T22.size _).trans (hb.mono (Nat.le_trans T22.size (by simp)))
      clear hb T22
      go_wp2_with fail
      refine (r16 _).mono ?_
      rintro e v19 ⟨rfl, hb⟩
      have T24 : Below wa.heap.size wa v19 := T23.trans (hb.mono T23.size)
      clear hb T23
      go_wp2_with fail
      refine (r17 _).mono ?_
      rintro e v20 ⟨rfl, hb⟩
      have T25 : Below wa.heap.size wa v20 := T24.trans (hb.mono T24.size)
      clear hb T24
      go_wp2_with fail
      have fw : ∀ k, k < 18 → Set4 (v20.alloc (.cells #[.int .u64 (word q0 0), .int .u64 (word q0 1), .int .u64 (word q0 2), .int .u64 (word q0 3), .int .u64 (word q1 0), .int .u64 (word q1 1), .int .u64 (word q1 2), .int .u64 (word q1 3), .int .u64 (word q2 0), .int .u64 (word q2 1), .int .u64 (word q2 2), .int .u64 (word q2 3), .int .u64 (word q2 0), .int .u64 (word q2 1), .int .u64 (word q2 2), .int .u64 (word q2 3), .int .u64 (word q4 0), .int .u64 (word q4 1), .int .u64 (word q4 2), .int .u64 (word q4 3), .int .u64 (word q5 0), .int .u64 (word q5 1), .int .u64 (word q5 2), .int .u64 (word q5 3), .int .u64 (word q6 0), .int .u64 (word q6 1), .int .u64 (word q6 2), .int .u64 (word q6 3), .int .u64 (word q7 0), .int .u64 (word q7 1), .int .u64 (word q7 2), .int .u64 (word q7 3), .int .u64 (word q8 0), .int .u64 (word q8 1), .int .u64 (word q8 2), .int .u64 (word q8 3), .int .u64 (word q9 0), .int .u64 (word q9 1), .int .u64 (word q9 2), .int .u64 (word q9 3), .int .u64 (word q10 0), .int .u64 (word q10 1), .int .u64 (word q10 2), .int .u64 (word q10 3), .int .u64 (word q11 0), .int .u64 (word q11 1), .int .u64 (word q11 2), .int .u64 (word q11 3), .int .u64 (word q7 0), .int .u64 (word q7 1), .int .u64 (word q7 2), .int .u64 (word q7 3), .int .u64 (word q13 0), .int .u64 (word q13 1), .int .u64 (word q13 2), .int .u64 (word q13 3), .int .u64 (word q14 0), .int .u64 (word q14 1), .int .u64 (word q14 2), .int .u64 (word q14 3), .int .u64 (word q15 0), .int .u64 (word q15 1), .int .u64 (word q15 2), .int .u64 (word q15 3), .int .u64 (word q16 0), .int .u64 (word q16 1), .int .u64 (word q16 2), .int .u64 (word q16 3), .int .u64 (word q17 0), .int .u64 (word q17 1), .int .u64 (word q17 2), .int .u64 (word q17 3)] 32)) v20.heap.size (k * 4) (goodW.getD k 0) := fun k hk => by
        have hsets := sets_lit v20 [q0, q1, q2, q2, q4, q5, q6, q7, q8, q9, q10, q11, q7, q13, q14, q15, q16, q17] #[.int .u64 (word q0 0), .int .u64 (word q0 1), .int .u64 (word q0 2), .int .u64 (word q0 3), .int .u64 (word q1 0), .int .u64 (word q1 1), .int .u64 (word q1 2), .int .u64 (word q1 3), .int .u64 (word q2 0), .int .u64 (word q2 1), .int .u64 (word q2 2), .int .u64 (word q2 3), .int .u64 (word q2 0), .int .u64 (word q2 1), .int .u64 (word q2 2), .int .u64 (word q2 3), .int .u64 (word q4 0), .int .u64 (word q4 1), .int .u64 (word q4 2), .int .u64 (word q4 3), .int .u64 (word q5 0), .int .u64 (word q5 1), .int .u64 (word q5 2), .int .u64 (word q5 3), .int .u64 (word q6 0), .int .u64 (word q6 1), .int .u64 (word q6 2), .int .u64 (word q6 3), .int .u64 (word q7 0), .int .u64 (word q7 1), .int .u64 (word q7 2), .int .u64 (word q7 3), .int .u64 (word q8 0), .int .u64 (word q8 1), .int .u64 (word q8 2), .int .u64 (word q8 3), .int .u64 (word q9 0), .int .u64 (word q9 1), .int .u64 (word q9 2), .int .u64 (word q9 3), .int .u64 (word q10 0), .int .u64 (word q10 1), .int .u64 (word q10 2), .int .u64 (word q10 3), .int .u64 (word q11 0), .int .u64 (word q11 1), .int .u64 (word q11 2), .int .u64 (word q11 3), .int .u64 (word q7 0), .int .u64 (word q7 1), .int .u64 (word q7 2), .int .u64 (word q7 3), .int .u64 (word q13 0), .int .u64 (word q13 1), .int .u64 (word q13 2), .int .u64 (word q13 3), .int .u64 (word q14 0), .int .u64 (word q14 1), .int .u64 (word q14 2), .int .u64 (word q14 3), .int .u64 (word q15 0), .int .u64 (word q15 1), .int .u64 (word q15 2), .int .u64 (word q15 3), .int .u64 (word q16 0), .int .u64 (word q16 1), .int .u64 (word q16 2), .int .u64 (word q16 3), .int .u64 (word q17 0), .int .u64 (word q17 1), .int .u64 (word q17 2), .int .u64 (word q17 3)] rfl (by simp [maxLen])
        obtain ⟨_, _, h3⟩ := hsets
        rcases h3 with h | ⟨b, off, e1, _, _, e4⟩
        · cases h
        · cases e1
          have := e4 k hk
          rw [Nat.zero_add] at this
          rw [hgw]; exact this
      have Bw : Below w.heap.size w (v20.alloc (.cells #[.int .u64 (word q0 0), .int .u64 (word q0 1), .int .u64 (word q0 2), .int .u64 (word q0 3), .int .u64 (word q1 0), .int .u64 (word q1 1), .int .u64 (word q1 2), .int .u64 (word q1 3), .int .u64 (word q2 0), .int .u64 (word q2 1), .int .u64 (word q2 2), .int .u64 (word q2 3), .int .u64 (word q2 0), .int .u64 (word q2 1), .int .u64 (word q2 2), .int .u64 (word q2 3), .int .u64 (word q4 0), .int .u64 (word q4 1), .int .u64 (word q4 2), .int .u64 (word q4 3), .int .u64 (word q5 0), .int .u64 (word q5 1), .int .u64 (word q5 2), .int .u64 (word q5 3), .int .u64 (word q6 0), .int .u64 (word q6 1), .int .u64 (word q6 2), .int .u64 (word q6 3), .int .u64 (word q7 0), .int .u64 (word q7 1), .int .u64 (word q7 2), .int .u64 (word q7 3), .int .u64 (word q8 0), .int .u64 (word q8 1), .int .u64 (word q8 2), .int .u64 (word q8 3), .int .u64 (word q9 0), .int .u64 (word q9 1), .int .u64 (word q9 2), .int .u64 (word q9 3), .int .u64 (word q10 0), .int .u64 (word q10 1), .int .u64 (word q10 2), .int .u64 (word q10 3), .int .u64 (word q11 0), .int .u64 (word q11 1), .int .u64 (word q11 2), .int .u64 (word q11 3), .int .u64 (word q7 0), .int .u64 (word q7 1), .int .u64 (word q7 2), .int .u64 (word q7 3), .int .u64 (word q13 0), .int .u64 (word q13 1), .int .u64 (word q13 2), .int .u64 (word q13 3), .int .u64 (word q14 0), .int .u64 (word q14 1), .int .u64 (word q14 2), .int .u64 (word q14 3), .int .u64 (word q15 0), .int .u64 (word q15 1), .int .u64 (word q15 2), .int .u64 (word q15 3), .int .u64 (word q16 0), .int .u64 (word q16 1), .int .u64 (word q16 2), .int .u64 (word q16 3), .int .u64 (word q17 0), .int .u64 (word q17 1), .int .u64 (word q17 2), .int .u64 (word q17 3)] 32)) := (B4.trans (T25.mono B4.size)).alloc (Nat.le_trans B4.size T25.size) _
      have Tw : Below wa.heap.size wa (v20.alloc (.cells #[.int .u64 (word q0 0), .int .u64 (word q0 1), .int .u64 (word q0 2), .int .u64 (word q0 3), .int .u64 (word q1 0), .int .u64 (word q1 1), .int .u64 (word q1 2), .int .u64 (word q1 3), .int .u64 (word q2 0), .int .u64 (word q2 1), .int .u64 (word q2 2), .int .u64 (word q2 3), .int .u64 (word q2 0), .int .u64 (word q2 1), .int .u64 (word q2 2), .int .u64 (word q2 3), .int .u64 (word q4 0), .int .u64 (word q4 1), .int .u64 (word q4 2), .int .u64 (word q4 3), .int .u64 (word q5 0), .int .u64 (word q5 1), .int .u64 (word q5 2), .int .u64 (word q5 3), .int .u64 (word q6 0), .int .u64 (word q6 1), .int .u64 (word q6 2), .int .u64 (word q6 3), .int .u64 (word q7 0), .int .u64 (word q7 1), .int .u64 (word q7 2), .int .u64 (word q7 3), .int .u64 (word q8 0), .int .u64 (word q8 1), .int .u64 (word q8 2), .int .u64 (word q8 3), .int .u64 (word q9 0), .int .u64 (word q9 1), .int .u64 (word q9 2), .int .u64 (word q9 3), .int .u64 (word q10 0), .int .u64 (word q10 1), .int .u64 (word q10 2), .int .u64 (word q10 3), .int .u64 (word q11 0), .int .u64 (word q11 1), .int .u64 (word q11 2), .int .u64 (word q11 3), .int .u64 (word q7 0), .int .u64 (word q7 1), .int .u64 (word q7 2), .int .u64 (word q7 3), .int .u64 (word q13 0), .int .u64 (word q13 1), .int .u64 (word q13 2), .int .u64 (word q13 3), .int .u64 (word q14 0), .int .u64 (word q14 1), .int .u64 (word q14 2), .int .u64 (word q14 3), .int .u64 (word q15 0), .int .u64 (word q15 1), .int .u64 (word q15 2), .int .u64 (word q15 3), .int .u64 (word q16 0), .int .u64 (word q16 1), .int .u64 (word q16 2), .int .u64 (word q16 3), .int .u64 (word q17 0), .int .u64 (word q17 1), .int .u64 (word q17 2), .int .u64 (word q17 3)] 32)) := T25.alloc T25.size _
      have hzw : v20.heap.size < (v20.alloc (.cells #[.int .u64 (word q0 0), .int .u64 (word q0 1), .int .u64 (word q0 2), .int .u64 (word q0 3), .int .u64 (word q1 0), .int .u64 (word q1 1), .int .u64 (word q1 2), .int .u64 (word q1 3), .int .u64 (word q2 0), .int .u64 (word q2 1), .int .u64 (word q2 2), .int .u64 (word q2 3), .int .u64 (word q2 0), .int .u64 (word q2 1), .int .u64 (word q2 2), .int .u64 (word q2 3), .int .u64 (word q4 0), .int .u64 (word q4 1), .int .u64 (word q4 2), .int .u64 (word q4 3), .int .u64 (word q5 0), .int .u64 (word q5 1), .int .u64 (word q5 2), .int .u64 (word q5 3), .int .u64 (word q6 0), .int .u64 (word q6 1), .int .u64 (word q6 2), .int .u64 (word q6 3), .int .u64 (word q7 0), .int .u64 (word q7 1), .int .u64 (word q7 2), .int .u64 (word q7 3), .int .u64 (word q8 0), .int .u64 (word q8 1), .int .u64 (word q8 2), .int .u64 (word q8 3), .int .u64 (word q9 0), .int .u64 (word q9 1), .int .u64 (word q9 2), .int .u64 (word q9 3), .int .u64 (word q10 0), .int .u64 (word q10 1), .int .u64 (word q10 2), .int .u64 (word q10 3), .int .u64 (word q11 0), .int .u64 (word q11 1), .int .u64 (word q11 2), .int .u64 (word q11 3), .int .u64 (word q7 0), .int .u64 (word q7 1), .int .u64 (word q7 2), .int .u64 (word q7 3), .int .u64 (word q13 0), .int .u64 (word q13 1), .int .u64 (word q13 2), .int .u64 (word q13 3), .int .u64 (word q14 0), .int .u64 (word q14 1), .int .u64 (word q14 2), .int .u64 (word q14 3), .int .u64 (word q15 0), .int .u64 (word q15 1), .int .u64 (word q15 2), .int .u64 (word q15 3), .int .u64 (word q16 0), .int .u64 (word q16 1), .int .u64 (word q16 2), .int .u64 (word q16 3), .int .u64 (word q17 0), .int .u64 (word q17 1), .int .u64 (word q17 2), .int .u64 (word q17 3)] 32)).heap.size := by simp
      generalize v20.alloc (.cells #[.int .u64 (word q0 0), .int .u64 (word q0 1), .int .u64 (word q0 2), .int .u64 (word q0 3), .int .u64 (word q1 0), .int .u64 (word q1 1), .int .u64 (word q1 2), .int .u64 (word q1 3), .int .u64 (word q2 0), .int .u64 (word q2 1), .int .u64 (word q2 2), .int .u64 (word q2 3), .int .u64 (word q2 0), .int .u64 (word q2 1), .int .u64 (word q2 2), .int .u64 (word q2 3), .int .u64 (word q4 0), .int .u64 (word q4 1), .int .u64 (word q4 2), .int .u64 (word q4 3), .int .u64 (word q5 0), .int .u64 (word q5 1), .int .u64 (word q5 2), .int .u64 (word q5 3), .int .u64 (word q6 0), .int .u64 (word q6 1), .int .u64 (word q6 2), .int .u64 (word q6 3), .int .u64 (word q7 0), .int .u64 (word q7 1), .int .u64 (word q7 2), .int .u64 (word q7 3), .int .u64 (word q8 0), .int .u64 (word q8 1), .int .u64 (word q8 2), .int .u64 (word q8 3), .int .u64 (word q9 0), .int .u64 (word q9 1), .int .u64 (word q9 2), .int .u64 (word q9 3), .int .u64 (word q10 0), .int .u64 (word q10 1), .int .u64 (word q10 2), .int .u64 (word q10 3), .int .u64 (word q11 0), .int .u64 (word q11 1), .int .u64 (word q11 2), .int .u64 (word q11 3), .int .u64 (word q7 0), .int .u64 (word q7 1), .int .u64 (word q7 2), .int .u64 (word q7 3), .int .u64 (word q13 0), .int .u64 (word q13 1), .int .u64 (word q13 2), .int .u64 (word q13 3), .int .u64 (word q14 0), .int .u64 (word q14 1), .int .u64 (word q14 2), .int .u64 (word q14 3), .int .u64 (word q15 0), .int .u64 (word q15 1), .int .u64 (word q15 2), .int .u64 (word q15 3), .int .u64 (word q16 0), .int .u64 (word q16 1), .int .u64 (word q16 2), .int .u64 (word q16 3), .int .u64 (word q17 0), .int .u64 (word q17 1), .int .u64 (word q17 2), .int .u64 (word q17 3)] 32) = wb at fw Bw Tw hzw ⊢
      generalize v20.heap.size = gw at fw hzw ⊢
      have FW := Lib.hid fw
      clear fw T25 hgw n1 r4 r6 r16 r17 or6 al11
      have hzs : gs < wb.heap.size := Nat.lt_of_lt_of_le hzr Tw.size
      have fs2 : ∀ k, k < 18 → wb.cell? ⟨gs, k, none⟩ = some (.string (ofNats (goodS.getD k []))) := fun k hk => (Tw.cell (p := ⟨gs, k, none⟩) hzr).trans (FS.out k hk)
      have FS2 := Lib.hid fs2
      clear FS Tw fs2
      go_loopw [10] (fun i wr => ∃ k : Nat, i = .int .i64 k ∧ k ≤ 18 ∧ Below wb.heap.size wb wr) (fun i _ => 18 - (intOf i).toNat)
      case atStart => exact ⟨0, rfl, by omega, Below.refl _ _⟩
      case round =>
        obtain ⟨k, rfl, hk, hr⟩ := hrel
        by_cases hkn : k < 18
        · have hd : decide ((k : Int) < 18) = true := by simp; omega
          obtain ⟨hc, hsz⟩ := good_cut k hkn
          have hcut := cut_good _ hsz _ hc
          have c1 : wr.cell? ⟨gs, k, none⟩ = _ := (hr.cell (p := ⟨gs, k, none⟩) hzs).trans (FS2.out k hkn)
          have hset := (FW.out k hkn).below hr hzw
          generalize ofNats (goodS.getD k []) = s at hcut c1
          generalize goodW.getD k 0 = Q at hcut hset
          have Mr := maxAt_below hM (Bw.trans (hr.mono Bw.size))
          have hzs' := Nat.lt_of_lt_of_le hzs hr.size
          have hzw' := Nat.lt_of_lt_of_le hzw hr.size
          clear hc hsz
          go_wp2_with fail
          refine (hcut _ Mr).mono ?_
          rintro e w3 ⟨v, rfl, ht, hb3⟩
          obtain ⟨g, cap, rfl, hcap, hg, ht0⟩ := toks_one ht
          have d1 := (hb3.cell (p := ⟨gs, k, none⟩) hzs').trans c1
          have hset3 := hset.below hb3 hzw'
          have h3 := hr.trans (hb3.mono hr.size)
          have hz3 := Nat.lt_of_lt_of_le hzs' hb3.size
          have hz3' := Nat.lt_of_lt_of_le hzw' hb3.size
          clear c1 hset hcut ht Mr hb3
          have hcell : ∀ L : Later w3, L.val.cell? ⟨gs, k, none⟩ = some (.string s) := fun L => (L.ok.cell (p := ⟨gs, k, none⟩) hz3).trans d1
          have hlt : ∀ w', (∃ L : Later w3, w' = L.val) → Tok8 w' g 0 ⟨1, Q, 0, 0⟩ 0 := fun w' hw' => by obtain ⟨L, rfl⟩ := hw'; exact ht0.below L.ok hg
          have hls : ∀ w', (∃ L : Later w3, w' = L.val) → Set4 w' gw (k * 4) Q := fun w' hw' => by obtain ⟨L, rfl⟩ := hw'; exact hset3.below L.ok hz3'
          have heq : ∀ w, (Op.equalIn 10000 39 (.agg #[.int .i64 1, .int .u64 (word Q 0), .int .u64 (word Q 1), .int .u64 (word Q 2), .int .u64 (word Q 3), .int .i64 0, .int .i64 0, .int .i64 0]) (.agg #[.int .i64 1, .int .u64 (word Q 0), .int .u64 (word Q 1), .int .u64 (word Q 2), .int .u64 (word Q 3), .int .i64 0, .int .i64 0, .int .i64 0])).run Try.prog w = .ok true w := fun w => eql_tok ⟨1, Q, 0, 0⟩ 0 w
          have hne := Later.nonempty w3
          clear d1 ht0 hset3
          go_wp2_with fail
          refine wp_region_later (W0 := w3) (Below.refl _ _) (by kernel_rfl) (by as_aux_lemma => kernel_rfl) ?_
          iterate 19 (go_big_quiet_step (fail))
          go_big_quiet_want
          refine quiet_load_tokV _ rfl g 0 ⟨1, Q, 0, 0⟩ 0 (.agg #[.int .i64 1, .int .u64 (word Q 0), .int .u64 (word Q 1), .int .u64 (word Q 2), .int .u64 (word Q 3), .int .i64 0, .int .i64 0, .int .i64 0]) rfl rfl hlt ?_
          go_big_quiet_on
          simp only [Act.put, List.setIfInBounds_toArray, List.set_cons_zero, List.set_cons_succ]
          iterate 3 (go_big_quiet_step (fail))
          go_big_quiet_want
          refine quiet_load_set _ rfl gw (k * 4) Q rfl hls ?_
          go_big_quiet_on
          simp only [Act.put, List.setIfInBounds_toArray, List.set_cons_zero, List.set_cons_succ]
          repeat (go_big_quiet_step (fail))
          refine wpQuiet_nil ?_
          intro w' hw'
          obtain ⟨L', rfl⟩ := hw'
          have h5 := h3.trans (L'.ok.mono h3.size)
          go_wp2_with fail
          go_roundw
          case rel => exact ⟨k + 1, by go_num, by omega, h5⟩
          case measure => simp [intOf]; omega
        · obtain rfl : k = 18 := by omega
          have B5 : Below w.heap.size w wr := Bw.trans (hr.mono Bw.size)
          clear FS2 FW hr Bw hzs hzw hkn hk
          go_wp2_with fail
          refine (hcutL _ (maxAt_below hM B5)).mono ?_
          rintro e w5 ⟨v, rfl, ht, hb5⟩
          obtain ⟨g, cap, rfl, hcap, hg, htok⟩ := toks_cells ht (by omega)
          have B6 : Below w.heap.size w w5 := B5.trans (hb5.mono B5.size)
          have fk : ∀ k, k < 14 → w5.cell? ⟨g, k * 8, none⟩ = some (.int .i64 (lastK.getD k 0 : Nat)) := fun k hk => by
            have h := htok k (by omega) 0 _ rfl
            rw [← map_get LL (fun p => p.1.kind) lastK lk k (by omega) 0]
            exact h
          have lo9 : w5.cell? ⟨g, 77, none⟩ = some (.int .i64 1) := by
            have h := htok 9 (by omega) 5 _ rfl
            have e := map_get LL (fun p => (p.1.lo, p.1.hi)) _ lb 9 (by omega) (0, 0)
            rw [show LL[9].1.lo = 1 from congrArg Prod.fst e] at h
            exact h
          have hi9 : w5.cell? ⟨g, 78, none⟩ = some (.int .i64 (-1)) := by
            have h := htok 9 (by omega) 6 _ rfl
            have e := map_get LL (fun p => (p.1.lo, p.1.hi)) _ lb 9 (by omega) (0, 0)
            rw [show LL[9].1.hi = -1 from congrArg Prod.snd e] at h
            exact h
          have hi11 : w5.cell? ⟨g, 94, none⟩ = some (.int .i64 0) := by
            have h := htok 11 (by omega) 6 _ rfl
            have e := map_get LL (fun p => (p.1.lo, p.1.hi)) _ lb 11 (by omega) (0, 0)
            rw [show LL[11].1.hi = 0 from congrArg Prod.snd e] at h
            exact h
          have hi12 : w5.cell? ⟨g, 102, none⟩ = some (.int .i64 7) := by
            have h := htok 12 (by omega) 6 _ rfl
            have e := map_get LL (fun p => (p.1.lo, p.1.hi)) _ lb 12 (by omega) (0, 0)
            rw [show LL[12].1.hi = 7 from congrArg Prod.snd e] at h
            exact h
          rw [hl14] at hcap ⊢
          clear htok ht hb5 hcutL lk lb hl14
          go_wp2_with fail
          have fl : ∀ k, k < 14 → (w5.alloc (.cells #[.int .i64 7, .int .i64 3, .int .i64 1, .int .i64 5, .int .i64 2, .int .i64 1, .int .i64 4, .int .i64 4, .int .i64 6, .int .i64 6, .int .i64 6, .int .i64 6, .int .i64 6, .int .i64 8] 3)).cell? ⟨w5.heap.size, k, none⟩ = some (.int .i64 (lastK.getD k 0 : Nat)) := fun k hk => lit_at w5 lastK (fun n => .int .i64 (n : Nat)) 0 _ _ rfl k hk
          have T6 : Below w5.heap.size w5 (w5.alloc (.cells #[.int .i64 7, .int .i64 3, .int .i64 1, .int .i64 5, .int .i64 2, .int .i64 1, .int .i64 4, .int .i64 4, .int .i64 6, .int .i64 6, .int .i64 6, .int .i64 6, .int .i64 6, .int .i64 8] 3)) := (Below.refl _ _).alloc (Nat.le_refl _) _
          have hz6 : w5.heap.size < (w5.alloc (.cells #[.int .i64 7, .int .i64 3, .int .i64 1, .int .i64 5, .int .i64 2, .int .i64 1, .int .i64 4, .int .i64 4, .int .i64 6, .int .i64 6, .int .i64 6, .int .i64 6, .int .i64 6, .int .i64 8] 3)).heap.size := by simp
          generalize w5.alloc (.cells #[.int .i64 7, .int .i64 3, .int .i64 1, .int .i64 5, .int .i64 2, .int .i64 1, .int .i64 4, .int .i64 4, .int .i64 6, .int .i64 6, .int .i64 6, .int .i64 6, .int .i64 6, .int .i64 8] 3) = w6 at fl T6 hz6 ⊢
          generalize hgk : w5.heap.size = gk at fl hz6 ⊢
          have hg6 : g < w6.heap.size := by omega
          have fk6 : ∀ k, k < 14 → w6.cell? ⟨g, k * 8, none⟩ = some (.int .i64 (lastK.getD k 0 : Nat)) := fun k hk => (T6.cell (p := ⟨g, k * 8, none⟩) hg).trans (fk k hk)
          have FK := Lib.hid fk6
          have FL := Lib.hid fl
          replace lo9 := (T6.cell (p := ⟨g, 77, none⟩) hg).trans lo9
          replace hi9 := (T6.cell (p := ⟨g, 78, none⟩) hg).trans hi9
          replace hi11 := (T6.cell (p := ⟨g, 94, none⟩) hg).trans hi11
          replace hi12 := (T6.cell (p := ⟨g, 102, none⟩) hg).trans hi12
          replace B6 : Below w.heap.size w w6 := B6.trans (T6.mono B6.size)
          clear fk fl fk6 T6 B5 hgk hg
          have LO9 := Lib.hid lo9
          have HI9 := Lib.hid hi9
          have HI11 := Lib.hid hi11
          have HI12 := Lib.hid hi12
          clear lo9 hi9 hi11 hi12
          go_loopw [18] (fun i wr => ∃ k : Nat, i = .int .i64 k ∧ k ≤ 14 ∧ Below w6.heap.size w6 wr) (fun i _ => 14 - (intOf i).toNat)
          case atStart => exact ⟨0, rfl, by omega, Below.refl _ _⟩
          case round =>
            obtain ⟨k, rfl, hk, hr⟩ := hrel
            have hgr := Nat.lt_of_lt_of_le hg6 hr.size
            have hgkr := Nat.lt_of_lt_of_le hz6 hr.size
            by_cases hkn : k < 14
            · have hd : decide ((k : Int) < 14) = true := by simp; omega
              have ck : ∀ L : Later wr, L.val.cell? ⟨g, k * 8, none⟩ = some (.int .i64 (lastK.getD k 0 : Nat)) := fun L => (L.ok.cell (p := ⟨g, k * 8, none⟩) hgr).trans ((hr.cell (p := ⟨g, k * 8, none⟩) hg6).trans (FK.out k hkn))
              have cl : ∀ L : Later wr, L.val.cell? ⟨gk, k, none⟩ = some (.int .i64 (lastK.getD k 0 : Nat)) := fun L => (L.ok.cell (p := ⟨gk, k, none⟩) hgkr).trans ((hr.cell (p := ⟨gk, k, none⟩) hz6).trans (FL.out k hkn))
              generalize lastK.getD k 0 = kk at ck cl
              have hne := Later.nonempty wr
              go_wp2_with fail
              refine wp_region_later (W0 := wr) (Below.refl _ _) (by kernel_rfl) (by as_aux_lemma => kernel_rfl) ?_
              repeat (go_big_quiet_step (fail))
              refine wpQuiet_nil ?_
              intro w' hw'
              obtain ⟨L', rfl⟩ := hw'
              have h5 := hr.trans (L'.ok.mono hr.size)
              clear ck cl
              go_wp2_with fail
              go_roundw
              case rel => exact ⟨k + 1, by go_num, by omega, h5⟩
              case measure => simp [intOf]; omega
            · obtain rfl : k = 14 := by omega
              have lo9 := (hr.cell (p := ⟨g, 77, none⟩) hg6).trans LO9.out
              have hi9 := (hr.cell (p := ⟨g, 78, none⟩) hg6).trans HI9.out
              have hi11 := (hr.cell (p := ⟨g, 94, none⟩) hg6).trans HI11.out
              have hi12 := (hr.cell (p := ⟨g, 102, none⟩) hg6).trans HI12.out
              have B7 : Below w.heap.size w wr := B6.trans (hr.mono B6.size)
              clear FK FL LO9 HI9 HI11 HI12 hr B6 hg6 hz6
              go_wp2_with fail
              obtain ⟨w7, hmk, hBy, hb7⟩ := make_zeros wr
              rw [hmk]
              simp only [Result.andThen_ok]
              rw [Oper.upon_value]
              clear hmk
              go_wp2_with fail
              obtain ⟨SS, hSS⟩ : ∃ SS : ByteArray, SS = ⟨(toBytes (List.replicate 1025 0)).toArray⟩ := ⟨_, rfl⟩
              have hSz : 1024 < SS.size := by rw [hSS]; show 1024 < (ofNats (List.replicate 1025 0)).size; rw [ofNats_size, List.length_replicate]; decide
              rw [string_at hBy, ← hSS]
              simp only [Result.andThen_ok]
              rw [Oper.upon_value]
              clear hBy hSS
              go_wp2_with fail
              refine (cut_large SS hSz _).mono ?_
              rintro e w8 ⟨rfl, hb8⟩
              have hg7 : g < w7.heap.size := Nat.lt_of_lt_of_le hgr hb7.size
              replace lo9 := (hb8.cell (p := ⟨g, 77, none⟩) hg7).trans ((hb7.cell (p := ⟨g, 77, none⟩) hgr).trans lo9)
              replace hi9 := (hb8.cell (p := ⟨g, 78, none⟩) hg7).trans ((hb7.cell (p := ⟨g, 78, none⟩) hgr).trans hi9)
              replace hi11 := (hb8.cell (p := ⟨g, 94, none⟩) hg7).trans ((hb7.cell (p := ⟨g, 94, none⟩) hgr).trans hi11)
              replace hi12 := (hb8.cell (p := ⟨g, 102, none⟩) hg7).trans ((hb7.cell (p := ⟨g, 102, none⟩) hgr).trans hi12)
              have B9 := (B7.trans (hb7.mono B7.size)).trans (hb8.mono (Nat.le_trans B7.size hb7.size))
              clear hb7 hb8
              go_wp2_with fail
              go_ret
              exact ⟨rfl, B9⟩
end Go.Proofs.Ythppkaohmdnjcaa
