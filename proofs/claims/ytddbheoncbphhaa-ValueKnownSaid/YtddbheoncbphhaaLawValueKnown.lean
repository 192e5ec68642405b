/- The law ValueKnown, walked: the closed statement of layer 10. -/
import Derived.Test.YtddbheoncbphhaaValAwake
import Derived.Test.YtddbheoncbphhaaValOps
import Derived.Test.YtddbheoncbphhaaAnyGuard2
import Derived.RegionTactic
import Derived.ChangeAlike
import Derived.BigRegion
namespace Go.Proofs.Ytddbheoncbphhaa
namespace V
set_option maxRecDepth 100000
open Go.RowKit
theorem heap_push (w : World) (o : Obj) : (w.alloc o).heap = w.heap.push o := rfl
theorem heap_drew (w : World) : w.drew.heap = w.heap := rfl
theorem list_row {w : World} (L : List (Vl × List Value)) (hL : ∀ p ∈ L, Vl.at w p.1 p.2) {b : Nat} {cs : Array Value} (hb : w.heap[b]? = some (.cells cs 25)) (hc : cs.toList = L.flatMap (·.2)) (hn : L.length ≤ maxLen) : ListAt w (L.map (·.1)) (.slice (some ⟨b, 0, none⟩) L.length L.length) := by
  refine ⟨_, _, by rw [List.length_map], by rw [List.length_map]; exact hn, .inr ⟨b, 0, rfl, by rw [List.length_map]; exact Nat.le_refl _, (Array.getElem?_eq_some_iff.1 hb).1, valsAt_cells L 0 hL fun q _ => ?_⟩⟩
  rw [Nat.zero_add, cells_at hb, ← Array.getElem?_toList, hc]
/-- the two of a pair of literals, each in a box of its own; v16, v19: their lists -/
def Two (W : World) (X Y : Vl) (v3 v4 v16 v19 : Value) (wx : World) : Prop :=
  (∃ (s1 s2 : Nat), v16 = .slice (some ⟨s1, 0, none⟩) 1 1 ∧ v19 = .slice (some ⟨s2, 0, none⟩) 1 1) ∧ ∃ (b3 b4 : Nat) (c3 c4 : List Value), v3 = .pointer (some ⟨b3, 0, none⟩) ∧ v4 = .pointer (some ⟨b4, 0, none⟩) ∧ ValIn wx b3 c3.toArray ∧ Vl.at wx X c3 ∧ ValIn wx b4 c4.toArray ∧ Vl.at wx Y c4 ∧ Below W.heap.size W wx
theorem two_of {W wx : World} {b3 b4 s1 s2 : Nat} (h3 : ValIn wx b3 #[.int .i64 4, .int .u8 0, .slice (some ⟨s1, 0, none⟩) 1 1]) (h4 : ValIn wx b4 #[.int .i64 5, .int .u8 0, .slice (some ⟨s2, 0, none⟩) 1 1])
    (r1 : wx.heap[s1]? = some (.cells #[.int .i64 2, .int .u8 97, .slice none 0 0] 25)) (r2 : wx.heap[s2]? = some (.cells #[.int .i64 1, .int .u8 0, .slice none 0 0] 25)) (hb : Below W.heap.size W wx) :
    Two W (.mk 4 0 [.mk 2 97 []]) (.mk 5 0 [.mk 1 0 []]) (.pointer (some ⟨b3, 0, none⟩)) (.pointer (some ⟨b4, 0, none⟩)) (.slice (some ⟨s1, 0, none⟩) 1 1) (.slice (some ⟨s2, 0, none⟩) 1 1) wx :=
  ⟨⟨s1, s2, rfl, rfl⟩, b3, b4, [_, _, _], [_, _, _], rfl, rfl, h3, at_of_list (list_row [(.mk 2 97 [], [.int .i64 2, .int .u8 97, .slice none 0 0])] (by intro p hp; rw [List.mem_singleton] at hp; subst hp; exact at_plain rfl (by decide)) r1 rfl (by show 1 ≤ maxLen; decide)) rfl (by decide),
    h4, at_of_list (list_row [(.mk 1 0 [], [.int .i64 1, .int .u8 0, .slice none 0 0])] (by intro p hp; rw [List.mem_singleton] at hp; subst hp; exact at_plain rfl (by decide)) r2 rfl (by show 1 ≤ maxLen; decide)) rfl (by decide), hb⟩

def vk10 (_B0 : Nat) : List Fact := [
  isVal (Vl.mk 0 0 []),
  isVal (Vl.mk 8 0 []),
  isVal (Vl.mk 2 98 []),
  isVal (Vl.mk 1 1 []),
  isVal (Vl.mk 4 0 []),
  isVal (Vl.mk 1 0 []),
  isVals [(Vl.mk 1 0 [])],
  isVal (Vl.mk 4 0 [(Vl.mk 1 0 [])]),
  isVal (Vl.mk 2 97 []),
  isVals [(Vl.mk 2 97 [])],
  isVal (Vl.mk 5 0 [(Vl.mk 2 97 [])]),
  isVal (Vl.mk 2 97 []),
  isVal (Vl.mk 2 97 []),
  isVals [(Vl.mk 2 97 []), (Vl.mk 2 97 [])],
  isVal (Vl.mk 4 0 [(Vl.mk 2 97 []), (Vl.mk 2 97 [])]),
  isVal (Vl.mk 3 0 [(Vl.mk 2 97 []), (Vl.mk 2 97 [])]),
  isVal (Vl.mk 6 0 [(Vl.mk 2 97 []), (Vl.mk 2 97 [])]),
  isVals [(Vl.mk 0 0 []), (Vl.mk 8 0 []), (Vl.mk 2 98 []), (Vl.mk 1 1 []), (Vl.mk 4 0 []), (Vl.mk 4 0 [(Vl.mk 1 0 [])]), (Vl.mk 5 0 [(Vl.mk 2 97 [])]), (Vl.mk 4 0 [(Vl.mk 2 97 []), (Vl.mk 2 97 [])]), (Vl.mk 3 0 [(Vl.mk 2 97 []), (Vl.mk 2 97 [])]), (Vl.mk 6 0 [(Vl.mk 2 97 []), (Vl.mk 2 97 [])])],
  isVals [(Vl.mk 0 0 []), (Vl.mk 8 0 []), (Vl.mk 2 98 []), (Vl.mk 1 1 []), (Vl.mk 4 0 []), (Vl.mk 4 0 [(Vl.mk 1 0 [])]), (Vl.mk 5 0 [(Vl.mk 2 97 [])]), (Vl.mk 4 0 [(Vl.mk 2 97 []), (Vl.mk 2 97 [])]), (Vl.mk 3 0 [(Vl.mk 2 97 []), (Vl.mk 2 97 [])]), (Vl.mk 6 0 [(Vl.mk 2 97 []), (Vl.mk 2 97 [])])]]
theorem vk10_stable (B0 : Nat) : AllG (fun _ P => Stable P) 0 (vk10 B0) := by
  unfold vk10
  refine AllG.cons (k' := 1) rfl (isVal.stable _) ?_
  refine AllG.cons (k' := 2) rfl (isVal.stable _) ?_
  refine AllG.cons (k' := 3) rfl (isVal.stable _) ?_
  refine AllG.cons (k' := 4) rfl (isVal.stable _) ?_
  refine AllG.cons (k' := 5) rfl (isVal.stable _) ?_
  refine AllG.cons (k' := 6) rfl (isVal.stable _) ?_
  refine AllG.cons (k' := 7) rfl (isVals.stable _) ?_
  refine AllG.cons (k' := 8) rfl (isVal.stable _) ?_
  refine AllG.cons (k' := 9) rfl (isVal.stable _) ?_
  refine AllG.cons (k' := 10) rfl (isVals.stable _) ?_
  refine AllG.cons (k' := 11) rfl (isVal.stable _) ?_
  refine AllG.cons (k' := 12) rfl (isVal.stable _) ?_
  refine AllG.cons (k' := 13) rfl (isVal.stable _) ?_
  refine AllG.cons (k' := 14) rfl (isVals.stable _) ?_
  refine AllG.cons (k' := 15) rfl (isVal.stable _) ?_
  refine AllG.cons (k' := 16) rfl (isVal.stable _) ?_
  refine AllG.cons (k' := 17) rfl (isVal.stable _) ?_
  refine AllG.cons (k' := 18) rfl (isVals.stable _) ?_
  refine AllG.cons (k' := 19) rfl (isVals.stable _) ?_
  exact AllG.nil

def vk14 (_B0 : Nat) (bb boff cap9 j : Nat) (x : Vl) : List Fact := [
  isCore (K.Cr.mk 4 0 0 [(K.Cr.mk 2 sA 0 []), (K.Cr.mk 1 0 0 [])]),
  isEq (.slice (some ⟨bb, boff, none⟩) 10 cap9),
  isEq (.int .i64 (j : Int)),
  isEq (.pointer (some ⟨bb, boff + j * 3, none⟩)),
  isVal x,
  isEq (.bool false),
  isEq (.bool false),
  isCore (K.Cr.mk 4 0 0 [(K.Cr.mk 2 sA 0 []), (K.Cr.mk 1 0 0 [])]),
  isEq (.slice (some ⟨bb, boff, none⟩) 10 cap9),
  isEq (.int .i64 (j : Int)),
  isEq (.pointer (some ⟨bb, boff + j * 3, none⟩)),
  isVal x,
  isEq (.bool false),
  isEq (.bool false)]
theorem vk14_stable (B0 : Nat) (bb boff cap9 j : Nat) (x : Vl) : AllG (fun _ P => Stable P) 0 (vk14 B0 bb boff cap9 j x) := by
  unfold vk14
  refine AllG.cons (k' := 1) rfl (isCore.stable _) ?_
  refine AllG.cons (k' := 2) rfl (isEq.stable _) ?_
  refine AllG.cons (k' := 3) rfl (isEq.stable _) ?_
  refine AllG.cons (k' := 4) rfl (isEq.stable _) ?_
  refine AllG.cons (k' := 5) rfl (isVal.stable _) ?_
  refine AllG.cons (k' := 6) rfl (isEq.stable _) ?_
  refine AllG.cons (k' := 7) rfl (isEq.stable _) ?_
  refine AllG.cons (k' := 8) rfl (isCore.stable _) ?_
  refine AllG.cons (k' := 9) rfl (isEq.stable _) ?_
  refine AllG.cons (k' := 10) rfl (isEq.stable _) ?_
  refine AllG.cons (k' := 11) rfl (isEq.stable _) ?_
  refine AllG.cons (k' := 12) rfl (isVal.stable _) ?_
  refine AllG.cons (k' := 13) rfl (isEq.stable _) ?_
  refine AllG.cons (k' := 14) rfl (isEq.stable _) ?_
  exact AllG.nil

def vk16 (B0 : Nat) : List Fact := [
  isCore (K.Cr.mk 4 0 0 [(K.Cr.mk 2 sA 0 []), (K.Cr.mk 1 0 0 [])]),
  isVal (Vl.mk 4 0 [(Vl.mk 2 97 [])]),
  isEq (.bool true),
  isEq (.bool true),
  isCore (K.Cr.mk 4 0 0 [(K.Cr.mk 2 sA 0 []), (K.Cr.mk 1 0 0 [])]),
  isVal (Vl.mk 5 0 [(Vl.mk 1 0 [])]),
  isEq (.bool true),
  isEq (.bool true),
  isEq (.bool true),
  isLit B0 [97],
  isCore (K.Cr.mk 2 sA 0 []),
  isCore (K.Cr.mk 5 0 0 [(K.Cr.mk 2 sA 0 [])]),
  isVal (Vl.mk 6 0 [(Vl.mk 2 97 []), (Vl.mk 2 97 [])]),
  isEq (.bool true),
  isEq (.bool true),
  isEq (.bool true),
  isCore (K.Cr.mk 1 0 0 []),
  isCore (K.Cr.mk 5 0 0 [(K.Cr.mk 1 0 0 [])]),
  isVal (Vl.mk 6 0 [(Vl.mk 1 0 [])]),
  isEq (.bool true),
  isEq (.bool true),
  isEq (.bool true),
  isCore (K.Cr.mk 1 0 0 []),
  isCore (K.Cr.mk 5 0 0 [(K.Cr.mk 1 0 0 [])]),
  isVal (Vl.mk 6 0 [(Vl.mk 1 0 [])]),
  isEq (.bool false),
  isEq (.bool true),
  isEq (.bool true),
  isEq (.bool true),
  isCore (K.Cr.mk 1 0 0 []),
  isCore (K.Cr.mk 5 0 0 [(K.Cr.mk 1 0 0 [])]),
  isVal (Vl.mk 6 0 []),
  isEq (.bool true),
  isEq (.bool true),
  isEq (.bool true),
  isCore (K.Cr.mk 4 0 0 [(K.Cr.mk 2 sA 0 []), (K.Cr.mk 1 0 0 [])]),
  isCore (K.Cr.mk 6 0 3 [(K.Cr.mk 4 0 0 [(K.Cr.mk 2 sA 0 []), (K.Cr.mk 1 0 0 [])])]),
  isVal (Vl.mk 7 0 [(Vl.mk 4 0 [(Vl.mk 2 97 [])])]),
  isEq (.bool true),
  isEq (.bool true),
  isEq (.bool true),
  isCore (K.Cr.mk 4 0 0 [(K.Cr.mk 2 sA 0 []), (K.Cr.mk 1 0 0 [])]),
  isCore (K.Cr.mk 7 0 0 [(K.Cr.mk 4 0 0 [(K.Cr.mk 2 sA 0 []), (K.Cr.mk 1 0 0 [])])]),
  isVal (Vl.mk 4 0 [(Vl.mk 2 97 [])]),
  isEq (.bool true),
  isEq (.bool true),
  isEq (.bool true),
  isCore (K.Cr.mk 0 0 0 []),
  isVal (Vl.mk 1 0 []),
  isEq (.bool false),
  isEq (.bool true),
  isEq (.bool true),
  isEq (.bool true),
  isCore (K.Cr.mk 9 0 0 []),
  isVal (Vl.mk 1 0 []),
  isEq (.bool false),
  isEq (.bool true),
  isEq (.bool true),
  isEq (.bool true),
  isVal (Vl.mk 7 0 [(Vl.mk 4 0 [(Vl.mk 2 97 [])])]),
  isText [60, 76, 54, 49, 62],
  isEq (.bool true),
  isEq (.bool true),
  isEq (.bool true),
  isVal (Vl.mk 5 0 [(Vl.mk 1 0 [])]),
  isText [82, 69],
  isEq (.bool true),
  isEq (.bool true),
  isEq (.bool true),
  isVal (Vl.mk 6 0 [(Vl.mk 2 97 []), (Vl.mk 2 97 [])]),
  isText [91, 54, 49, 44, 54, 49, 93],
  isEq (.bool true),
  isEq (.bool true),
  isEq (.bool true),
  isVal (Vl.mk 0 0 []),
  isText [63],
  isEq (.bool true),
  isEq (.bool true),
  isEq (.bool true),
  isVal (Vl.mk 2 97 []),
  isVals [(Vl.mk 2 97 [])],
  isVal (Vl.mk 3 0 [(Vl.mk 2 97 [])]),
  isText [40, 54, 49, 44, 41],
  isEq (.bool true),
  isEq (.bool true),
  isEq (.bool true),
  isVal (Vl.mk 3 0 []),
  isText [40, 44, 41],
  isEq (.bool true),
  isEq (.bool true),
  isEq (.bool true),
  isVal (Vl.mk 7 0 []),
  isText [60, 62],
  isEq (.bool true),
  isEq (.bool true),
  isEq (.bool true),
  isVal (Vl.mk 6 0 [(Vl.mk 2 97 []), (Vl.mk 2 97 [])]),
  isEq (.int .i64 2),
  isEq (.bool true),
  isEq (.bool true),
  isEq (.bool true),
  isVal (Vl.mk 2 97 []),
  isVals [(Vl.mk 2 97 [])],
  isVal (Vl.mk 9 0 [(Vl.mk 2 97 [])]),
  isEq (.int .i64 0),
  isEq (.bool true),
  isEq (.bool true),
  isEq (.bool true),
  isVal (Vl.mk 2 97 []),
  isVal (Vl.mk 2 97 []),
  isVals [(Vl.mk 2 97 []), (Vl.mk 2 97 [])],
  isVal (Vl.mk 4 0 [(Vl.mk 2 97 []), (Vl.mk 2 97 [])]),
  isEq (.int .i64 2),
  isEq (.bool true),
  isEq (.bool true),
  isEq (.bool true),
  isVal (Vl.mk 2 97 []),
  isVals [(Vl.mk 2 97 [])],
  isVal (Vl.mk 1 0 [(Vl.mk 2 97 [])]),
  isBytes [],
  isEq (.int .i64 0),
  isEq (.bool true),
  isEq (.bool true),
  isEq (.bool true),
  isVal (Vl.mk 6 0 [(Vl.mk 2 97 []), (Vl.mk 2 97 [])]),
  isVal (Vl.mk 6 0 [(Vl.mk 2 97 []), (Vl.mk 2 97 [])]),
  isEq (.bool true),
  isEq (.bool true),
  isEq (.bool true),
  isVal (Vl.mk 6 0 [(Vl.mk 2 97 []), (Vl.mk 2 97 [])]),
  isVal (Vl.mk 6 0 [(Vl.mk 1 0 [])]),
  isEq (.bool false),
  isEq (.bool true),
  isEq (.bool true),
  isEq (.bool true)]
theorem vk16_stable (B0 : Nat) : AllG (fun _ P => Stable P) 0 (vk16 B0) := by
  unfold vk16
  refine AllG.cons (k' := 1) rfl (isCore.stable _) ?_
  refine AllG.cons (k' := 2) rfl (isVal.stable _) ?_
  refine AllG.cons (k' := 3) rfl (isEq.stable _) ?_
  refine AllG.cons (k' := 4) rfl (isEq.stable _) ?_
  refine AllG.cons (k' := 5) rfl (isCore.stable _) ?_
  refine AllG.cons (k' := 6) rfl (isVal.stable _) ?_
  refine AllG.cons (k' := 7) rfl (isEq.stable _) ?_
  refine AllG.cons (k' := 8) rfl (isEq.stable _) ?_
  refine AllG.cons (k' := 9) rfl (isEq.stable _) ?_
  refine AllG.cons (k' := 10) rfl (isLit.stable _ _) ?_
  refine AllG.cons (k' := 11) rfl (isCore.stable _) ?_
  refine AllG.cons (k' := 12) rfl (isCore.stable _) ?_
  refine AllG.cons (k' := 13) rfl (isVal.stable _) ?_
  refine AllG.cons (k' := 14) rfl (isEq.stable _) ?_
  refine AllG.cons (k' := 15) rfl (isEq.stable _) ?_
  refine AllG.cons (k' := 16) rfl (isEq.stable _) ?_
  refine AllG.cons (k' := 17) rfl (isCore.stable _) ?_
  refine AllG.cons (k' := 18) rfl (isCore.stable _) ?_
  refine AllG.cons (k' := 19) rfl (isVal.stable _) ?_
  refine AllG.cons (k' := 20) rfl (isEq.stable _) ?_
  refine AllG.cons (k' := 21) rfl (isEq.stable _) ?_
  refine AllG.cons (k' := 22) rfl (isEq.stable _) ?_
  refine AllG.cons (k' := 23) rfl (isCore.stable _) ?_
  refine AllG.cons (k' := 24) rfl (isCore.stable _) ?_
  refine AllG.cons (k' := 25) rfl (isVal.stable _) ?_
  refine AllG.cons (k' := 26) rfl (isEq.stable _) ?_
  refine AllG.cons (k' := 27) rfl (isEq.stable _) ?_
  refine AllG.cons (k' := 28) rfl (isEq.stable _) ?_
  refine AllG.cons (k' := 29) rfl (isEq.stable _) ?_
  refine AllG.cons (k' := 30) rfl (isCore.stable _) ?_
  refine AllG.cons (k' := 31) rfl (isCore.stable _) ?_
  refine AllG.cons (k' := 32) rfl (isVal.stable _) ?_
  refine AllG.cons (k' := 33) rfl (isEq.stable _) ?_
  refine AllG.cons (k' := 34) rfl (isEq.stable _) ?_
  refine AllG.cons (k' := 35) rfl (isEq.stable _) ?_
  refine AllG.cons (k' := 36) rfl (isCore.stable _) ?_
  refine AllG.cons (k' := 37) rfl (isCore.stable _) ?_
  refine AllG.cons (k' := 38) rfl (isVal.stable _) ?_
  refine AllG.cons (k' := 39) rfl (isEq.stable _) ?_
  refine AllG.cons (k' := 40) rfl (isEq.stable _) ?_
  refine AllG.cons (k' := 41) rfl (isEq.stable _) ?_
  refine AllG.cons (k' := 42) rfl (isCore.stable _) ?_
  refine AllG.cons (k' := 43) rfl (isCore.stable _) ?_
  refine AllG.cons (k' := 44) rfl (isVal.stable _) ?_
  refine AllG.cons (k' := 45) rfl (isEq.stable _) ?_
  refine AllG.cons (k' := 46) rfl (isEq.stable _) ?_
  refine AllG.cons (k' := 47) rfl (isEq.stable _) ?_
  refine AllG.cons (k' := 48) rfl (isCore.stable _) ?_
  refine AllG.cons (k' := 49) rfl (isVal.stable _) ?_
  refine AllG.cons (k' := 50) rfl (isEq.stable _) ?_
  refine AllG.cons (k' := 51) rfl (isEq.stable _) ?_
  refine AllG.cons (k' := 52) rfl (isEq.stable _) ?_
  refine AllG.cons (k' := 53) rfl (isEq.stable _) ?_
  refine AllG.cons (k' := 54) rfl (isCore.stable _) ?_
  refine AllG.cons (k' := 55) rfl (isVal.stable _) ?_
  refine AllG.cons (k' := 56) rfl (isEq.stable _) ?_
  refine AllG.cons (k' := 57) rfl (isEq.stable _) ?_
  refine AllG.cons (k' := 58) rfl (isEq.stable _) ?_
  refine AllG.cons (k' := 59) rfl (isEq.stable _) ?_
  refine AllG.cons (k' := 60) rfl (isVal.stable _) ?_
  refine AllG.cons (k' := 61) rfl (isText.stable _) ?_
  refine AllG.cons (k' := 62) rfl (isEq.stable _) ?_
  refine AllG.cons (k' := 63) rfl (isEq.stable _) ?_
  refine AllG.cons (k' := 64) rfl (isEq.stable _) ?_
  refine AllG.cons (k' := 65) rfl (isVal.stable _) ?_
  refine AllG.cons (k' := 66) rfl (isText.stable _) ?_
  refine AllG.cons (k' := 67) rfl (isEq.stable _) ?_
  refine AllG.cons (k' := 68) rfl (isEq.stable _) ?_
  refine AllG.cons (k' := 69) rfl (isEq.stable _) ?_
  refine AllG.cons (k' := 70) rfl (isVal.stable _) ?_
  refine AllG.cons (k' := 71) rfl (isText.stable _) ?_
  refine AllG.cons (k' := 72) rfl (isEq.stable _) ?_
  refine AllG.cons (k' := 73) rfl (isEq.stable _) ?_
  refine AllG.cons (k' := 74) rfl (isEq.stable _) ?_
  refine AllG.cons (k' := 75) rfl (isVal.stable _) ?_
  refine AllG.cons (k' := 76) rfl (isText.stable _) ?_
  refine AllG.cons (k' := 77) rfl (isEq.stable _) ?_
  refine AllG.cons (k' := 78) rfl (isEq.stable _) ?_
  refine AllG.cons (k' := 79) rfl (isEq.stable _) ?_
  refine AllG.cons (k' := 80) rfl (isVal.stable _) ?_
  refine AllG.cons (k' := 81) rfl (isVals.stable _) ?_
  refine AllG.cons (k' := 82) rfl (isVal.stable _) ?_
  refine AllG.cons (k' := 83) rfl (isText.stable _) ?_
  refine AllG.cons (k' := 84) rfl (isEq.stable _) ?_
  refine AllG.cons (k' := 85) rfl (isEq.stable _) ?_
  refine AllG.cons (k' := 86) rfl (isEq.stable _) ?_
  refine AllG.cons (k' := 87) rfl (isVal.stable _) ?_
  refine AllG.cons (k' := 88) rfl (isText.stable _) ?_
  refine AllG.cons (k' := 89) rfl (isEq.stable _) ?_
  refine AllG.cons (k' := 90) rfl (isEq.stable _) ?_
  refine AllG.cons (k' := 91) rfl (isEq.stable _) ?_
  refine AllG.cons (k' := 92) rfl (isVal.stable _) ?_
  refine AllG.cons (k' := 93) rfl (isText.stable _) ?_
  refine AllG.cons (k' := 94) rfl (isEq.stable _) ?_
  refine AllG.cons (k' := 95) rfl (isEq.stable _) ?_
  refine AllG.cons (k' := 96) rfl (isEq.stable _) ?_
  refine AllG.cons (k' := 97) rfl (isVal.stable _) ?_
  refine AllG.cons (k' := 98) rfl (isEq.stable _) ?_
  refine AllG.cons (k' := 99) rfl (isEq.stable _) ?_
  refine AllG.cons (k' := 100) rfl (isEq.stable _) ?_
  refine AllG.cons (k' := 101) rfl (isEq.stable _) ?_
  refine AllG.cons (k' := 102) rfl (isVal.stable _) ?_
  refine AllG.cons (k' := 103) rfl (isVals.stable _) ?_
  refine AllG.cons (k' := 104) rfl (isVal.stable _) ?_
  refine AllG.cons (k' := 105) rfl (isEq.stable _) ?_
  refine AllG.cons (k' := 106) rfl (isEq.stable _) ?_
  refine AllG.cons (k' := 107) rfl (isEq.stable _) ?_
  refine AllG.cons (k' := 108) rfl (isEq.stable _) ?_
  refine AllG.cons (k' := 109) rfl (isVal.stable _) ?_
  refine AllG.cons (k' := 110) rfl (isVal.stable _) ?_
  refine AllG.cons (k' := 111) rfl (isVals.stable _) ?_
  refine AllG.cons (k' := 112) rfl (isVal.stable _) ?_
  refine AllG.cons (k' := 113) rfl (isEq.stable _) ?_
  refine AllG.cons (k' := 114) rfl (isEq.stable _) ?_
  refine AllG.cons (k' := 115) rfl (isEq.stable _) ?_
  refine AllG.cons (k' := 116) rfl (isEq.stable _) ?_
  refine AllG.cons (k' := 117) rfl (isVal.stable _) ?_
  refine AllG.cons (k' := 118) rfl (isVals.stable _) ?_
  refine AllG.cons (k' := 119) rfl (isVal.stable _) ?_
  refine AllG.cons (k' := 120) rfl (isBytes.stable _) ?_
  refine AllG.cons (k' := 121) rfl (isEq.stable _) ?_
  refine AllG.cons (k' := 122) rfl (isEq.stable _) ?_
  refine AllG.cons (k' := 123) rfl (isEq.stable _) ?_
  refine AllG.cons (k' := 124) rfl (isEq.stable _) ?_
  refine AllG.cons (k' := 125) rfl (isVal.stable _) ?_
  refine AllG.cons (k' := 126) rfl (isVal.stable _) ?_
  refine AllG.cons (k' := 127) rfl (isEq.stable _) ?_
  refine AllG.cons (k' := 128) rfl (isEq.stable _) ?_
  refine AllG.cons (k' := 129) rfl (isEq.stable _) ?_
  refine AllG.cons (k' := 130) rfl (isVal.stable _) ?_
  refine AllG.cons (k' := 131) rfl (isVal.stable _) ?_
  refine AllG.cons (k' := 132) rfl (isEq.stable _) ?_
  refine AllG.cons (k' := 133) rfl (isEq.stable _) ?_
  refine AllG.cons (k' := 134) rfl (isEq.stable _) ?_
  refine AllG.cons (k' := 135) rfl (isEq.stable _) ?_
  exact AllG.nil

def badL : List Vl := [(Vl.mk 0 0 []), (Vl.mk 8 0 []), (Vl.mk 2 98 []), (Vl.mk 1 1 []), (Vl.mk 4 0 []), (Vl.mk 4 0 [(Vl.mk 1 0 [])]), (Vl.mk 5 0 [(Vl.mk 2 97 [])]), (Vl.mk 4 0 [(Vl.mk 2 97 []), (Vl.mk 2 97 [])]), (Vl.mk 3 0 [(Vl.mk 2 97 []), (Vl.mk 2 97 [])]), (Vl.mk 6 0 [(Vl.mk 2 97 []), (Vl.mk 2 97 [])])]
theorem bad_len : badL.length = 10 := rfl
theorem bad_no : ∀ j (h : j < badL.length), goodV (K.Cr.mk 4 0 0 [(K.Cr.mk 2 sA 0 []), (K.Cr.mk 1 0 0 [])]) badL[j] = false ∧ fullV (K.Cr.mk 4 0 0 [(K.Cr.mk 2 sA 0 []), (K.Cr.mk 1 0 0 [])]) badL[j] = false := by decide +kernel
set_option maxHeartbeats 32000000 in
theorem valueKnown_walk (w : World) : Calls Try.prog 3 #[] w fun e w' => e = .returned (.bool true) ∧ Below w.heap.size w w' := by
  have haw := awake_any w
  go_enter Try.func3, Try.ntmps3
  go_upto_region 5 with (first
    | (go_at_call 8; refine haw.mono ?_; clear haw; rintro e w1 ⟨rfl, hb1⟩; have Hb1 := Lib.hid hb1; clear hb1)
    | fail)
  go_cut [3, 4, 16, 19] from 15 to 20 (fun v3 v4 v16 v19 wx => ∃ W5 : World, W5 = wx ∧ Two ((w1.alloc (.cells #[.int .i64 1, .int .u8 0, .slice none 0 0] 25)).alloc (.cells #[.int .i64 2, .int .u8 97, .slice none 0 0] 25)) (.mk 4 0 [.mk 2 97 []]) (.mk 5 0 [.mk 1 0 []]) v3 v4 v16 v19 W5)
  case first =>
    go_region
    all_goals go_step
    all_goals (first | go_meet | (go_step; go_meet))
    all_goals refine ⟨_, rfl, two_of ?_ ?_ ?_ ?_ ?_⟩
    all_goals first
      | ((simp only [ValIn, heap_push, heap_drew, Array.getElem?_push, Array.size_push] <;> (repeat (first | rw [if_neg (by omega)] | rw [if_pos (by first | trivial | omega)]))); done)
      | exact (by repeat (first | exact Below.refl _ _ | refine Below.drew ?_ | refine Below.alloc ?_ (by first | exact Nat.le_refl _ | (simp; done) | (simp; omega)) _))
  case rest =>
    obtain ⟨W5, hW5, ⟨s1, s2, rfl, rfl⟩, b3, b4, c3, c4, rfl, rfl, h3, A3, h4, A4, hb5⟩ := hcut
    subst hW5
    have a3 := at_lit A3
    have a4 := at_lit A4
    obtain ⟨k3, z3, ad3, len3, cap3, rfl⟩ := a3
    obtain ⟨k4, z4, ad4, len4, cap4, rfl⟩ := a4
    have hbx1 : ValIn W5 w1.heap.size #[.int .i64 1, .int .u8 0, .slice none 0 0] := val_later hb5 ((Below.heap_alloc _ _ _ (by simp)).trans (World.alloc_heap_new w1 _))
    have hbx2 : ValIn W5 (w1.heap.size + 1) #[.int .i64 2, .int .u8 97, .slice none 0 0] := val_later hb5 (by
      have h := World.alloc_heap_new (w1.alloc (.cells #[.int .i64 1, .int .u8 0, .slice none 0 0] 25)) (.cells #[.int .i64 2, .int .u8 97, .slice none 0 0] 25)
      rw [World.size_alloc] at h
      exact h)
    have BX1 := Lib.hid (fun (w' : World) (h : Below W5.heap.size W5 w') => And.intro (val3_in (cs := [.int .i64 1, .int .u8 0, .slice none 0 0]) (val_later h hbx1) rfl) (at_plain (W := w') (k := 1) (z := 0) rfl (by decide)))
    have BX2 := Lib.hid (fun (w' : World) (h : Below W5.heap.size W5 w') => And.intro (val3_in (cs := [.int .i64 2, .int .u8 97, .slice none 0 0]) (val_later h hbx2) rfl) (at_plain (W := w') (k := 2) (z := 97) rfl (by decide)))
    have BX3 := Lib.hid (fun (w' : World) (h : Below W5.heap.size W5 w') => And.intro (val3_in (cs := [.int .i64 k3, .int .u8 z3, .slice ad3 len3 cap3]) (val_later h h3) rfl) (Vl.at_below h (Nat.le_refl _) _ _ A3))
    have BX4 := Lib.hid (fun (w' : World) (h : Below W5.heap.size W5 w') => And.intro (val3_in (cs := [.int .i64 k4, .int .u8 z4, .slice ad4 len4 cap4]) (val_later h h4) rfl) (Vl.at_below h (Nat.le_refl _) _ _ A4))
    have H5 := Lib.hid (Hb1.out.trans (((((Below.refl w1.heap.size w1).alloc (Nat.le_refl _) _).alloc (by simp) _).trans (hb5.mono (by simp; omega))).mono Hb1.out.size))
    clear hbx1 hbx2 h3 A3 h4 A4 hb5
    go_upto_region 9 with (first
      | (refine wpList_load_val rfl _ rfl (w1.heap.size + 1) 0 _ rfl (BX2.out _ (by repeat (first | exact Below.refl _ _ | refine Below.alloc ?_ (by first | exact Nat.le_refl _ | (simp; done) | (simp; omega)) _))).1 ?_)
      | (refine wpList_load_val rfl _ rfl w1.heap.size 0 _ rfl (BX1.out _ (by repeat (first | exact Below.refl _ _ | refine Below.alloc ?_ (by first | exact Nat.le_refl _ | (simp; done) | (simp; omega)) _))).1 ?_)
      | (refine wpList_load_val rfl _ rfl b3 0 _ rfl (BX3.out _ (by repeat (first | exact Below.refl _ _ | refine Below.alloc ?_ (by first | exact Nat.le_refl _ | (simp; done) | (simp; omega)) _))).1 ?_)
      | fail)
    obtain ⟨W8, hW8⟩ : ∃ W8, W8 = (((((W5.alloc (.cells #[.int .i64 2, .int .u8 97, .slice none 0 0, .int .i64 2, .int .u8 97, .slice none 0 0] 25)).alloc (.cells #[.int .i64 6, .int .u8 0, .slice (some ⟨W5.heap.size, 0, none⟩) 2 2] 25)).alloc (.cells #[.int .i64 1, .int .u8 0, .slice none 0 0] 25)).alloc (.cells #[.int .i64 6, .int .u8 0, .slice (some ⟨W5.heap.size + 1 + 1, 0, none⟩) 1 1] 25)).alloc (.cells #[.int .i64 k3, .int .u8 z3, .slice ad3 len3 cap3] 25)).alloc (.cells #[.int .i64 7, .int .u8 0, .slice (some ⟨W5.heap.size + 1 + 1 + 1 + 1, 0, none⟩) 1 1] 25) := ⟨_, rfl⟩
    have h58 : Below W5.heap.size W5 W8 := by rw [hW8]; exact (by repeat (first | exact Below.refl _ _ | refine Below.alloc ?_ (by first | exact Nat.le_refl _ | (simp; done) | (simp; omega)) _))
    have r5 : W8.heap[W5.heap.size]? = some (.cells #[.int .i64 2, .int .u8 97, .slice none 0 0, .int .i64 2, .int .u8 97, .slice none 0 0] 25) := by rw [hW8]; (simp only [heap_push, Array.getElem?_push, Array.size_push] <;> (repeat (first | rw [if_neg (by omega)] | rw [if_pos (by first | trivial | omega)])))
    have x5 : ValIn W8 (W5.heap.size + 1) #[.int .i64 6, .int .u8 0, .slice (some ⟨W5.heap.size, 0, none⟩) 2 2] := by rw [hW8]; (simp only [ValIn, heap_push, Array.getElem?_push, Array.size_push] <;> (repeat (first | rw [if_neg (by omega)] | rw [if_pos (by first | trivial | omega)])))
    have r6 : W8.heap[W5.heap.size + 1 + 1]? = some (.cells #[.int .i64 1, .int .u8 0, .slice none 0 0] 25) := by rw [hW8]; (simp only [heap_push, Array.getElem?_push, Array.size_push] <;> (repeat (first | rw [if_neg (by omega)] | rw [if_pos (by first | trivial | omega)])))
    have x6 : ValIn W8 (W5.heap.size + 1 + 1 + 1) #[.int .i64 6, .int .u8 0, .slice (some ⟨W5.heap.size + 1 + 1, 0, none⟩) 1 1] := by rw [hW8]; (simp only [ValIn, heap_push, Array.getElem?_push, Array.size_push] <;> (repeat (first | rw [if_neg (by omega)] | rw [if_pos (by first | trivial | omega)])))
    have r7 : W8.heap[W5.heap.size + 1 + 1 + 1 + 1]? = some (.cells #[.int .i64 k3, .int .u8 z3, .slice ad3 len3 cap3] 25) := by rw [hW8]; (simp only [heap_push, Array.getElem?_push, Array.size_push] <;> (repeat (first | rw [if_neg (by omega)] | rw [if_pos (by first | trivial | omega)])))
    have x7 : ValIn W8 (W5.heap.size + 1 + 1 + 1 + 1 + 1) #[.int .i64 7, .int .u8 0, .slice (some ⟨W5.heap.size + 1 + 1 + 1 + 1, 0, none⟩) 1 1] := by rw [hW8]; (simp only [ValIn, heap_push, Array.getElem?_push, Array.size_push] <;> (repeat (first | rw [if_neg (by omega)] | rw [if_pos (by first | trivial | omega)])))
    have A5 : Vl.at W8 (.mk 6 0 [.mk 2 97 [], .mk 2 97 []]) [.int .i64 6, .int .u8 0, .slice (some ⟨W5.heap.size, 0, none⟩) 2 2] := at_of_list (list_row [(.mk 2 97 [], [.int .i64 2, .int .u8 97, .slice none 0 0]), (.mk 2 97 [], [.int .i64 2, .int .u8 97, .slice none 0 0])] (by intro p hp; simp only [List.mem_cons, List.not_mem_nil, or_false] at hp; rcases hp with rfl | rfl <;> exact at_plain rfl (by decide)) r5 rfl (by show 2 ≤ maxLen; decide)) rfl (by decide)
    have A6 : Vl.at W8 (.mk 6 0 [.mk 1 0 []]) [.int .i64 6, .int .u8 0, .slice (some ⟨W5.heap.size + 1 + 1, 0, none⟩) 1 1] := at_of_list (list_row [(.mk 1 0 [], [.int .i64 1, .int .u8 0, .slice none 0 0])] (by intro p hp; rw [List.mem_singleton] at hp; subst hp; exact at_plain rfl (by decide)) r6 rfl (by show 1 ≤ maxLen; decide)) rfl (by decide)
    have A7 : Vl.at W8 (.mk 7 0 [.mk 4 0 [.mk 2 97 []]]) [.int .i64 7, .int .u8 0, .slice (some ⟨W5.heap.size + 1 + 1 + 1 + 1, 0, none⟩) 1 1] := at_of_list (list_row [(.mk 4 0 [.mk 2 97 []], [.int .i64 k3, .int .u8 z3, .slice ad3 len3 cap3])] (by intro p hp; rw [List.mem_singleton] at hp; subst hp; exact (BX3.out W8 h58).2) r7 rfl (by show 1 ≤ maxLen; decide)) rfl (by decide)
    rw [← hW8]
    have H8 := Lib.hid (H5.out.trans (h58.mono H5.out.size))
    have H58 := Lib.hid h58
    have BX5 := Lib.hid (fun (w' : World) (h : Below W8.heap.size W8 w') => And.intro (val3_in (cs := [.int .i64 6, .int .u8 0, .slice (some ⟨W5.heap.size, 0, none⟩) 2 2]) (val_later h x5) rfl) (Vl.at_below h (Nat.le_refl _) _ _ A5))
    have BX6 := Lib.hid (fun (w' : World) (h : Below W8.heap.size W8 w') => And.intro (val3_in (cs := [.int .i64 6, .int .u8 0, .slice (some ⟨W5.heap.size + 1 + 1, 0, none⟩) 1 1]) (val_later h x6) rfl) (Vl.at_below h (Nat.le_refl _) _ _ A6))
    have BX7 := Lib.hid (fun (w' : World) (h : Below W8.heap.size W8 w') => And.intro (val3_in (cs := [.int .i64 7, .int .u8 0, .slice (some ⟨W5.heap.size + 1 + 1 + 1 + 1, 0, none⟩) 1 1]) (val_later h x7) rfl) (Vl.at_below h (Nat.le_refl _) _ _ A7))
    clear hW8 h58 r5 r6 r7 x5 x6 x7 A5 A6 A7
    go_upto_region 10 with (first
      | (go_at_call 10; refine (ch_eq (s := sA) (bytes_lit W8 [97] #[.int .u8 97] rfl (by decide) (by decide)) rfl).mono ?_; rintro e w10 ⟨zs1, rfl, hA1, hb10⟩; have ha1 := K.at_lit hA1; obtain ⟨ka, sa, na, aa, lena, capa, rfl⟩ := ha1; have A1 := Lib.hid hA1; have H10 := Lib.hid ((K.alloc_below W8 (.cells #[.int .u8 97] 5)).trans (hb10.mono (by simp))); clear hA1 hb10)
      | (go_at_call 11; refine (K.eps_walk w10).mono ?_; rintro e w11 ⟨zs2, rfl, hA2, hb11⟩; have ha2 := K.at_lit hA2; obtain ⟨kb, sb, nb, ab, lenb, capb, rfl⟩ := ha2; have A2 := Lib.hid hA2; have A1' := Lib.hid (K.Cr.at_below hb11 (Nat.le_refl _) _ _ A1.out); have H11 := Lib.hid (H10.out.trans (hb11.mono H10.out.size)); clear hA2 hb11)
      | (go_at_call 9; refine (K.alt_walk A1'.out A2.out).mono ?_; rintro e w12 ⟨zs3, rfl, hA3, hb12⟩; have ha3 := K.at_lit hA3; obtain ⟨kc, sc, nc, ac, lenc, capc, rfl⟩ := ha3; have A8 := Lib.hid hA3; have H12 := Lib.hid (H11.out.trans (hb12.mono H11.out.size)); clear hA3 hb12)
      | fail)
    obtain ⟨W9, hW9⟩ : ∃ W9, W9 = w12.alloc (.cells #[.int .i64 kc, .int .u64 (word sc 0), .int .u64 (word sc 1), .int .u64 (word sc 2), .int .u64 (word sc 3), .int .i64 nc, .slice ac lenc capc] 31) := ⟨_, rfl⟩
    obtain ⟨b8, hb8⟩ : ∃ b8, b8 = w12.heap.size := ⟨_, rfl⟩
    have x8 : K.CoreIn W9 b8 #[.int .i64 kc, .int .u64 (word sc 0), .int .u64 (word sc 1), .int .u64 (word sc 2), .int .u64 (word sc 3), .int .i64 nc, .slice ac lenc capc] := by rw [hW9, hb8]; exact World.alloc_heap_new _ _
    have h129 : Below w12.heap.size w12 W9 := by rw [hW9]; exact K.alloc_below _ _
    rw [← hW9, ← hb8]
    have h89 := H12.out.trans (h129.mono H12.out.size)
    have H89 := Lib.hid h89
    have H9 := Lib.hid (H8.out.trans (h89.mono H8.out.size))
    have H59 := Lib.hid (H58.out.trans (h89.mono H58.out.size))
    have BX8 := Lib.hid (fun (w' : World) (h : Below W9.heap.size W9 w') => And.intro (K.core7_in (cs := [.int .i64 kc, .int .u64 (word sc 0), .int .u64 (word sc 1), .int .u64 (word sc 2), .int .u64 (word sc 3), .int .i64 nc, .slice ac lenc capc]) (K.core_later h x8) rfl) (K.Cr.at_below (hop h h129) (Nat.le_refl _) _ _ A8.out))
    have BY1 := Lib.hid (fun (w' : World) (h : Below W9.heap.size W9 w') => BX1.out w' (H59.out.trans (h.mono H59.out.size)))
    clear BX1
    have BX1 := BY1
    clear BY1
    have BY2 := Lib.hid (fun (w' : World) (h : Below W9.heap.size W9 w') => BX2.out w' (H59.out.trans (h.mono H59.out.size)))
    clear BX2
    have BX2 := BY2
    clear BY2
    have BY3 := Lib.hid (fun (w' : World) (h : Below W9.heap.size W9 w') => BX3.out w' (H59.out.trans (h.mono H59.out.size)))
    clear BX3
    have BX3 := BY3
    clear BY3
    have BY4 := Lib.hid (fun (w' : World) (h : Below W9.heap.size W9 w') => BX4.out w' (H59.out.trans (h.mono H59.out.size)))
    clear BX4
    have BX4 := BY4
    clear BY4
    have BY5 := Lib.hid (fun (w' : World) (h : Below W9.heap.size W9 w') => BX5.out w' (H89.out.trans (h.mono H89.out.size)))
    clear BX5
    have BX5 := BY5
    clear BY5
    have BY6 := Lib.hid (fun (w' : World) (h : Below W9.heap.size W9 w') => BX6.out w' (H89.out.trans (h.mono H89.out.size)))
    clear BX6
    have BX6 := BY6
    clear BY6
    have BY7 := Lib.hid (fun (w' : World) (h : Below W9.heap.size W9 w') => BX7.out w' (H89.out.trans (h.mono H89.out.size)))
    clear BX7
    have BX7 := BY7
    clear BY7
    clear hW9 hb8 x8 h129 h89 A1 A2 A1' A8 H10 H11 H12
    go_cut [9] from 35 to 52 (fun v9 wx => ∃ W10, W10 = wx ∧ ListAt W10 badL v9 ∧ Below W9.heap.size W9 W10)
    case first =>
     rename_i J K' hR hMet
     refine wp_region_guards (factAt (vk10 W9.heap.size)) (W0 := W9) (by kernel_rfl) (by kernel_rfl) (by kernel_rfl) (Below.refl _ _) (fun i v w w' h hk => factAt_stable (vk10_stable _) i v w w' h hk) [] (by kernel_rfl) ?hgu ?hop ?hend
     case hgu =>
       intro j hj v w h
       simp at hj
     case hop =>
       refine AllG.get0 ?_
       refine AllG.cons (k' := 1) rfl ?_ ?_
       · intro a' w' hB hk hin KK hK
         unfold Oper.wp execOp
         go_simp
         exact hK _ _ hB (KeepsC.of_below (Below.refl _ _)) (fact_put (P := isVal (Vl.mk 0 0 [])) rfl ⟨[_, _, _], rfl, at_plain rfl (by decide)⟩)
       refine AllG.cons (k' := 2) rfl ?_ ?_
       · intro a' w' hB hk hin KK hK
         unfold Oper.wp execOp
         go_simp
         exact hK _ _ hB (KeepsC.of_below (Below.refl _ _)) (fact_put (P := isVal (Vl.mk 8 0 [])) rfl ⟨[_, _, _], rfl, at_plain rfl (by decide)⟩)
       refine AllG.cons (k' := 3) rfl ?_ ?_
       · intro a' w' hB hk hin KK hK
         unfold Oper.wp execOp
         go_simp
         exact hK _ _ hB (KeepsC.of_below (Below.refl _ _)) (fact_put (P := isVal (Vl.mk 2 98 [])) rfl ⟨[_, _, _], rfl, at_plain rfl (by decide)⟩)
       refine AllG.cons (k' := 4) rfl ?_ ?_
       · intro a' w' hB hk hin KK hK
         unfold Oper.wp execOp
         go_simp
         exact hK _ _ hB (KeepsC.of_below (Below.refl _ _)) (fact_put (P := isVal (Vl.mk 1 1 [])) rfl ⟨[_, _, _], rfl, at_plain rfl (by decide)⟩)
       refine AllG.cons (k' := 5) rfl ?_ ?_
       · intro a' w' hB hk hin KK hK
         unfold Oper.wp execOp
         go_simp
         exact hK _ _ hB (KeepsC.of_below (Below.refl _ _)) (fact_put (P := isVal (Vl.mk 4 0 [])) rfl ⟨[_, _, _], rfl, at_plain rfl (by decide)⟩)
       refine AllG.cons (k' := 6) rfl ?_ ?_
       · intro a' w' hB hk hin KK hK
         refine wp_load_valK _ rfl w1.heap.size 0 _ (eval_tmp (by rw [hk 1 (by kernel_rfl)]; rfl)) (BX1.out _ hB).1 ?_
         exact hK _ _ hB (KeepsC.of_below (Below.refl _ _)) (fact_put (P := isVal (Vl.mk 1 0 [])) rfl ⟨_, rfl, (BX1.out _ hB).2⟩)
       refine AllG.cons (k' := 7) rfl ?_ ?_
       · intro a' w' hB hk hin KK hK
         obtain ⟨v1, e1, q1⟩ := hin 5 _ 40 rfl rfl ⟨{ on := 5, ground := .data }, by simp, rfl, rfl⟩
         have q1 := fact_get (P := isVal (Vl.mk 1 0 [])) rfl q1
         obtain ⟨zs1, r1, hat1⟩ := q1
         subst r1
         have ha1 := at_lit hat1
         obtain ⟨k1, z1, a1, len1, cap1, rfl⟩ := ha1
         have hv := fun cs hc => vals_lit w' [((Vl.mk 1 0 []), [.int .i64 k1, .int .u8 z1, .slice a1 len1 cap1])] (by intro p hp; simp only [List.mem_cons, List.not_mem_nil, or_false] at hp; rcases hp with rfl <;> assumption) cs hc (by show 1 ≤ maxLen; decide)
         unfold Oper.wp execOp
         go_simp
         exact hK _ _ (hB.alloc hB.size _) (KeepsC.of_below ((Below.refl _ _).alloc (Nat.le_refl _) _)) (fact_put (P := isVals [(Vl.mk 1 0 [])]) rfl (hv _ rfl))
       refine AllG.cons (k' := 8) rfl ?_ ?_
       · intro a' w' hB hk hin KK hK
         obtain ⟨v2, e2, q2⟩ := hin 6 _ 41 rfl rfl ⟨{ on := 6, ground := .data }, by simp, rfl, rfl⟩
         have q2 := fact_get (P := isVals [(Vl.mk 1 0 [])]) rfl q2
         have hl2 := q2
         obtain ⟨a2, cap2, r2, _⟩ := q2
         subst r2
         unfold Oper.wp execOp
         go_simp
         exact hK _ _ hB (KeepsC.of_below (Below.refl _ _)) (fact_put (P := isVal (Vl.mk 4 0 [(Vl.mk 1 0 [])])) rfl ⟨[_, _, _], rfl, at_of_list hl2 rfl (by decide)⟩)
       refine AllG.cons (k' := 9) rfl ?_ ?_
       · intro a' w' hB hk hin KK hK
         refine wp_load_valK _ rfl (w1.heap.size + 1) 0 _ (eval_tmp (by rw [hk 2 (by kernel_rfl)]; rfl)) (BX2.out _ hB).1 ?_
         exact hK _ _ hB (KeepsC.of_below (Below.refl _ _)) (fact_put (P := isVal (Vl.mk 2 97 [])) rfl ⟨_, rfl, (BX2.out _ hB).2⟩)
       refine AllG.cons (k' := 10) rfl ?_ ?_
       · intro a' w' hB hk hin KK hK
         obtain ⟨v3, e3, q3⟩ := hin 8 _ 43 rfl rfl ⟨{ on := 8, ground := .data }, by simp, rfl, rfl⟩
         have q3 := fact_get (P := isVal (Vl.mk 2 97 [])) rfl q3
         obtain ⟨zs3, r3, hat3⟩ := q3
         subst r3
         have ha3 := at_lit hat3
         obtain ⟨k3, z3, a3, len3, cap3, rfl⟩ := ha3
         have hv := fun cs hc => vals_lit w' [((Vl.mk 2 97 []), [.int .i64 k3, .int .u8 z3, .slice a3 len3 cap3])] (by intro p hp; simp only [List.mem_cons, List.not_mem_nil, or_false] at hp; rcases hp with rfl <;> assumption) cs hc (by show 1 ≤ maxLen; decide)
         unfold Oper.wp execOp
         go_simp
         exact hK _ _ (hB.alloc hB.size _) (KeepsC.of_below ((Below.refl _ _).alloc (Nat.le_refl _) _)) (fact_put (P := isVals [(Vl.mk 2 97 [])]) rfl (hv _ rfl))
       refine AllG.cons (k' := 11) rfl ?_ ?_
       · intro a' w' hB hk hin KK hK
         obtain ⟨v4, e4, q4⟩ := hin 9 _ 44 rfl rfl ⟨{ on := 9, ground := .data }, by simp, rfl, rfl⟩
         have q4 := fact_get (P := isVals [(Vl.mk 2 97 [])]) rfl q4
         have hl4 := q4
         obtain ⟨a4, cap4, r4, _⟩ := q4
         subst r4
         unfold Oper.wp execOp
         go_simp
         exact hK _ _ hB (KeepsC.of_below (Below.refl _ _)) (fact_put (P := isVal (Vl.mk 5 0 [(Vl.mk 2 97 [])])) rfl ⟨[_, _, _], rfl, at_of_list hl4 rfl (by decide)⟩)
       refine AllG.cons (k' := 12) rfl ?_ ?_
       · intro a' w' hB hk hin KK hK
         refine wp_load_valK _ rfl (w1.heap.size + 1) 0 _ (eval_tmp (by rw [hk 2 (by kernel_rfl)]; rfl)) (BX2.out _ hB).1 ?_
         exact hK _ _ hB (KeepsC.of_below (Below.refl _ _)) (fact_put (P := isVal (Vl.mk 2 97 [])) rfl ⟨_, rfl, (BX2.out _ hB).2⟩)
       refine AllG.cons (k' := 13) rfl ?_ ?_
       · intro a' w' hB hk hin KK hK
         refine wp_load_valK _ rfl (w1.heap.size + 1) 0 _ (eval_tmp (by rw [hk 2 (by kernel_rfl)]; rfl)) (BX2.out _ hB).1 ?_
         exact hK _ _ hB (KeepsC.of_below (Below.refl _ _)) (fact_put (P := isVal (Vl.mk 2 97 [])) rfl ⟨_, rfl, (BX2.out _ hB).2⟩)
       refine AllG.cons (k' := 14) rfl ?_ ?_
       · intro a' w' hB hk hin KK hK
         obtain ⟨v5, e5, q5⟩ := hin 11 _ 46 rfl rfl ⟨{ on := 11, ground := .data }, by simp, rfl, rfl⟩
         have q5 := fact_get (P := isVal (Vl.mk 2 97 [])) rfl q5
         obtain ⟨zs5, r5, hat5⟩ := q5
         subst r5
         have ha5 := at_lit hat5
         obtain ⟨k5, z5, a5, len5, cap5, rfl⟩ := ha5
         obtain ⟨v6, e6, q6⟩ := hin 12 _ 47 rfl rfl ⟨{ on := 12, ground := .data }, by simp, rfl, rfl⟩
         have q6 := fact_get (P := isVal (Vl.mk 2 97 [])) rfl q6
         obtain ⟨zs6, r6, hat6⟩ := q6
         subst r6
         have ha6 := at_lit hat6
         obtain ⟨k6, z6, a6, len6, cap6, rfl⟩ := ha6
         have hv := fun cs hc => vals_lit w' [((Vl.mk 2 97 []), [.int .i64 k5, .int .u8 z5, .slice a5 len5 cap5]), ((Vl.mk 2 97 []), [.int .i64 k6, .int .u8 z6, .slice a6 len6 cap6])] (by intro p hp; simp only [List.mem_cons, List.not_mem_nil, or_false] at hp; rcases hp with rfl | rfl <;> assumption) cs hc (by show 2 ≤ maxLen; decide)
         unfold Oper.wp execOp
         go_simp
         exact hK _ _ (hB.alloc hB.size _) (KeepsC.of_below ((Below.refl _ _).alloc (Nat.le_refl _) _)) (fact_put (P := isVals [(Vl.mk 2 97 []), (Vl.mk 2 97 [])]) rfl (hv _ rfl))
       refine AllG.cons (k' := 15) rfl ?_ ?_
       · intro a' w' hB hk hin KK hK
         obtain ⟨v7, e7, q7⟩ := hin 13 _ 48 rfl rfl ⟨{ on := 13, ground := .data }, by simp, rfl, rfl⟩
         have q7 := fact_get (P := isVals [(Vl.mk 2 97 []), (Vl.mk 2 97 [])]) rfl q7
         have hl7 := q7
         obtain ⟨a7, cap7, r7, _⟩ := q7
         subst r7
         unfold Oper.wp execOp
         go_simp
         exact hK _ _ hB (KeepsC.of_below (Below.refl _ _)) (fact_put (P := isVal (Vl.mk 4 0 [(Vl.mk 2 97 []), (Vl.mk 2 97 [])])) rfl ⟨[_, _, _], rfl, at_of_list hl7 rfl (by decide)⟩)
       refine AllG.cons (k' := 16) rfl ?_ ?_
       · intro a' w' hB hk hin KK hK
         unfold Oper.wp execOp
         go_simp
         refine (two_walk 97 97 (by decide) (by decide) w').mono ?_
         rintro e wn ⟨zz, rfl, hat, hbn⟩
         exact hK _ _ (hB.trans (hbn.mono hB.size)) (KeepsC.of_below hbn) (fact_put (P := isVal (Vl.mk 3 0 [(Vl.mk 2 97 []), (Vl.mk 2 97 [])])) rfl ⟨zz, rfl, hat⟩)
       refine AllG.cons (k' := 17) rfl ?_ ?_
       · intro a' w' hB hk hin KK hK
         refine wp_load_valK _ rfl (W5.heap.size + 1) 0 _ (eval_tmp (by rw [hk 5 (by kernel_rfl)]; rfl)) (BX5.out _ hB).1 ?_
         exact hK _ _ hB (KeepsC.of_below (Below.refl _ _)) (fact_put (P := isVal (Vl.mk 6 0 [(Vl.mk 2 97 []), (Vl.mk 2 97 [])])) rfl ⟨_, rfl, (BX5.out _ hB).2⟩)
       refine AllG.cons (k' := 18) rfl ?_ ?_
       · intro a' w' hB hk hin KK hK
         obtain ⟨v8, e8, q8⟩ := hin 0 _ 35 rfl rfl ⟨{ on := 0, ground := .data }, by simp, rfl, rfl⟩
         have q8 := fact_get (P := isVal (Vl.mk 0 0 [])) rfl q8
         obtain ⟨zs8, r8, hat8⟩ := q8
         subst r8
         have ha8 := at_lit hat8
         obtain ⟨k8, z8, a8, len8, cap8, rfl⟩ := ha8
         obtain ⟨v9, e9, q9⟩ := hin 1 _ 36 rfl rfl ⟨{ on := 1, ground := .data }, by simp, rfl, rfl⟩
         have q9 := fact_get (P := isVal (Vl.mk 8 0 [])) rfl q9
         obtain ⟨zs9, r9, hat9⟩ := q9
         subst r9
         have ha9 := at_lit hat9
         obtain ⟨k9, z9, a9, len9, cap9, rfl⟩ := ha9
         obtain ⟨v10, e10, q10⟩ := hin 2 _ 37 rfl rfl ⟨{ on := 2, ground := .data }, by simp, rfl, rfl⟩
         have q10 := fact_get (P := isVal (Vl.mk 2 98 [])) rfl q10
         obtain ⟨zs10, r10, hat10⟩ := q10
         subst r10
         have ha10 := at_lit hat10
         obtain ⟨k10, z10, a10, len10, cap10, rfl⟩ := ha10
         obtain ⟨v11, e11, q11⟩ := hin 3 _ 38 rfl rfl ⟨{ on := 3, ground := .data }, by simp, rfl, rfl⟩
         have q11 := fact_get (P := isVal (Vl.mk 1 1 [])) rfl q11
         obtain ⟨zs11, r11, hat11⟩ := q11
         subst r11
         have ha11 := at_lit hat11
         obtain ⟨k11, z11, a11, len11, cap11, rfl⟩ := ha11
         obtain ⟨v12, e12, q12⟩ := hin 4 _ 39 rfl rfl ⟨{ on := 4, ground := .data }, by simp, rfl, rfl⟩
         have q12 := fact_get (P := isVal (Vl.mk 4 0 [])) rfl q12
         obtain ⟨zs12, r12, hat12⟩ := q12
         subst r12
         have ha12 := at_lit hat12
         obtain ⟨k12, z12, a12, len12, cap12, rfl⟩ := ha12
         obtain ⟨v13, e13, q13⟩ := hin 7 _ 42 rfl rfl ⟨{ on := 7, ground := .data }, by simp, rfl, rfl⟩
         have q13 := fact_get (P := isVal (Vl.mk 4 0 [(Vl.mk 1 0 [])])) rfl q13
         obtain ⟨zs13, r13, hat13⟩ := q13
         subst r13
         have ha13 := at_lit hat13
         obtain ⟨k13, z13, a13, len13, cap13, rfl⟩ := ha13
         obtain ⟨v14, e14, q14⟩ := hin 10 _ 45 rfl rfl ⟨{ on := 10, ground := .data }, by simp, rfl, rfl⟩
         have q14 := fact_get (P := isVal (Vl.mk 5 0 [(Vl.mk 2 97 [])])) rfl q14
         obtain ⟨zs14, r14, hat14⟩ := q14
         subst r14
         have ha14 := at_lit hat14
         obtain ⟨k14, z14, a14, len14, cap14, rfl⟩ := ha14
         obtain ⟨v15, e15, q15⟩ := hin 14 _ 49 rfl rfl ⟨{ on := 14, ground := .data }, by simp, rfl, rfl⟩
         have q15 := fact_get (P := isVal (Vl.mk 4 0 [(Vl.mk 2 97 []), (Vl.mk 2 97 [])])) rfl q15
         obtain ⟨zs15, r15, hat15⟩ := q15
         subst r15
         have ha15 := at_lit hat15
         obtain ⟨k15, z15, a15, len15, cap15, rfl⟩ := ha15
         obtain ⟨v16, e16, q16⟩ := hin 15 _ 50 rfl rfl ⟨{ on := 15, ground := .data }, by simp, rfl, rfl⟩
         have q16 := fact_get (P := isVal (Vl.mk 3 0 [(Vl.mk 2 97 []), (Vl.mk 2 97 [])])) rfl q16
         obtain ⟨zs16, r16, hat16⟩ := q16
         subst r16
         have ha16 := at_lit hat16
         obtain ⟨k16, z16, a16, len16, cap16, rfl⟩ := ha16
         obtain ⟨v17, e17, q17⟩ := hin 16 _ 51 rfl rfl ⟨{ on := 16, ground := .data }, by simp, rfl, rfl⟩
         have q17 := fact_get (P := isVal (Vl.mk 6 0 [(Vl.mk 2 97 []), (Vl.mk 2 97 [])])) rfl q17
         obtain ⟨zs17, r17, hat17⟩ := q17
         subst r17
         have ha17 := at_lit hat17
         obtain ⟨k17, z17, a17, len17, cap17, rfl⟩ := ha17
         have hv := fun cs hc => vals_lit w' [((Vl.mk 0 0 []), [.int .i64 k8, .int .u8 z8, .slice a8 len8 cap8]), ((Vl.mk 8 0 []), [.int .i64 k9, .int .u8 z9, .slice a9 len9 cap9]), ((Vl.mk 2 98 []), [.int .i64 k10, .int .u8 z10, .slice a10 len10 cap10]), ((Vl.mk 1 1 []), [.int .i64 k11, .int .u8 z11, .slice a11 len11 cap11]), ((Vl.mk 4 0 []), [.int .i64 k12, .int .u8 z12, .slice a12 len12 cap12]), ((Vl.mk 4 0 [(Vl.mk 1 0 [])]), [.int .i64 k13, .int .u8 z13, .slice a13 len13 cap13]), ((Vl.mk 5 0 [(Vl.mk 2 97 [])]), [.int .i64 k14, .int .u8 z14, .slice a14 len14 cap14]), ((Vl.mk 4 0 [(Vl.mk 2 97 []), (Vl.mk 2 97 [])]), [.int .i64 k15, .int .u8 z15, .slice a15 len15 cap15]), ((Vl.mk 3 0 [(Vl.mk 2 97 []), (Vl.mk 2 97 [])]), [.int .i64 k16, .int .u8 z16, .slice a16 len16 cap16]), ((Vl.mk 6 0 [(Vl.mk 2 97 []), (Vl.mk 2 97 [])]), [.int .i64 k17, .int .u8 z17, .slice a17 len17 cap17])] (by intro p hp; simp only [List.mem_cons, List.not_mem_nil, or_false] at hp; rcases hp with rfl | rfl | rfl | rfl | rfl | rfl | rfl | rfl | rfl | rfl <;> assumption) cs hc (by show 10 ≤ maxLen; decide)
         unfold Oper.wp execOp
         go_simp
         exact hK _ _ (hB.alloc hB.size _) (KeepsC.of_below ((Below.refl _ _).alloc (Nat.le_refl _) _)) (fact_put (P := isVals [(Vl.mk 0 0 []), (Vl.mk 8 0 []), (Vl.mk 2 98 []), (Vl.mk 1 1 []), (Vl.mk 4 0 []), (Vl.mk 4 0 [(Vl.mk 1 0 [])]), (Vl.mk 5 0 [(Vl.mk 2 97 [])]), (Vl.mk 4 0 [(Vl.mk 2 97 []), (Vl.mk 2 97 [])]), (Vl.mk 3 0 [(Vl.mk 2 97 []), (Vl.mk 2 97 [])]), (Vl.mk 6 0 [(Vl.mk 2 97 []), (Vl.mk 2 97 [])])]) rfl (hv _ rfl))
       refine AllG.cons (k' := 19) rfl ?_ ?_
       · intro a' w' hB hk hin KK hK
         obtain ⟨v18, e18, q18⟩ := hin 17 _ 52 rfl rfl ⟨{ on := 17, ground := .data }, by simp, rfl, rfl⟩
         have q18 := fact_get (P := isVals [(Vl.mk 0 0 []), (Vl.mk 8 0 []), (Vl.mk 2 98 []), (Vl.mk 1 1 []), (Vl.mk 4 0 []), (Vl.mk 4 0 [(Vl.mk 1 0 [])]), (Vl.mk 5 0 [(Vl.mk 2 97 [])]), (Vl.mk 4 0 [(Vl.mk 2 97 []), (Vl.mk 2 97 [])]), (Vl.mk 3 0 [(Vl.mk 2 97 []), (Vl.mk 2 97 [])]), (Vl.mk 6 0 [(Vl.mk 2 97 []), (Vl.mk 2 97 [])])]) rfl q18
         have hl18 := q18
         obtain ⟨a18, cap18, r18, _⟩ := q18
         subst r18
         unfold Oper.wp execOp
         go_simp
         exact hK _ _ hB (KeepsC.of_below (Below.refl _ _)) (fact_put (P := isVals [(Vl.mk 0 0 []), (Vl.mk 8 0 []), (Vl.mk 2 98 []), (Vl.mk 1 1 []), (Vl.mk 4 0 []), (Vl.mk 4 0 [(Vl.mk 1 0 [])]), (Vl.mk 5 0 [(Vl.mk 2 97 [])]), (Vl.mk 4 0 [(Vl.mk 2 97 []), (Vl.mk 2 97 [])]), (Vl.mk 3 0 [(Vl.mk 2 97 []), (Vl.mk 2 97 [])]), (Vl.mk 6 0 [(Vl.mk 2 97 []), (Vl.mk 2 97 [])])]) rfl hl18)
       exact AllG.nil
     case hend =>
      intro a' w' hB hdef hsz hk hvals
      obtain ⟨v', hv', hvt⟩ := hvals 18 _ 9 rfl rfl
      have hvt' := fact_get (P := isVals [(Vl.mk 0 0 []), (Vl.mk 8 0 []), (Vl.mk 2 98 []), (Vl.mk 1 1 []), (Vl.mk 4 0 []), (Vl.mk 4 0 [(Vl.mk 1 0 [])]), (Vl.mk 5 0 [(Vl.mk 2 97 [])]), (Vl.mk 4 0 [(Vl.mk 2 97 []), (Vl.mk 2 97 [])]), (Vl.mk 3 0 [(Vl.mk 2 97 []), (Vl.mk 2 97 [])]), (Vl.mk 6 0 [(Vl.mk 2 97 []), (Vl.mk 2 97 [])])]) rfl hvt
      have hf0 : a'.tmps.getD 9 undef = v' := by rw [Array.getD_eq_getD_getElem?, hv']; rfl
      have heq := act_eq hdef hsz hk
      refine hMet a' w' (Met.intro (hR a' w' ?_))
      refine ⟨a'.tmps.getD 9 undef, a'.tmps.getD 35 undef, a'.tmps.getD 36 undef, a'.tmps.getD 37 undef, a'.tmps.getD 38 undef, a'.tmps.getD 39 undef, a'.tmps.getD 40 undef, a'.tmps.getD 41 undef, a'.tmps.getD 42 undef, a'.tmps.getD 43 undef, a'.tmps.getD 44 undef, a'.tmps.getD 45 undef, a'.tmps.getD 46 undef, a'.tmps.getD 47 undef, a'.tmps.getD 48 undef, a'.tmps.getD 49 undef, a'.tmps.getD 50 undef, a'.tmps.getD 51 undef, a'.tmps.getD 52 undef, ⟨w', rfl, by rw [hf0]; exact hvt', hB⟩, heq.trans ?_⟩
      kernel_rfl
    case rest =>
     obtain ⟨W10, hW10, ⟨ad9, cap9, rfl, hm9, hl9⟩, h910⟩ := hcut
     subst hW10
     obtain ⟨bb, boff, rfl, hc9, hbb, hnodes⟩ := hl9.resolve_left (by decide)
     rw [bad_len] at hc9 ⊢
     have BY1 := Lib.hid (fun (w' : World) (h : Below W10.heap.size W10 w') => BX1.out w' (h910.trans (h.mono h910.size)))
     clear BX1
     have BX1 := BY1
     clear BY1
     have BY2 := Lib.hid (fun (w' : World) (h : Below W10.heap.size W10 w') => BX2.out w' (h910.trans (h.mono h910.size)))
     clear BX2
     have BX2 := BY2
     clear BY2
     have BY3 := Lib.hid (fun (w' : World) (h : Below W10.heap.size W10 w') => BX3.out w' (h910.trans (h.mono h910.size)))
     clear BX3
     have BX3 := BY3
     clear BY3
     have BY4 := Lib.hid (fun (w' : World) (h : Below W10.heap.size W10 w') => BX4.out w' (h910.trans (h.mono h910.size)))
     clear BX4
     have BX4 := BY4
     clear BY4
     have BY5 := Lib.hid (fun (w' : World) (h : Below W10.heap.size W10 w') => BX5.out w' (h910.trans (h.mono h910.size)))
     clear BX5
     have BX5 := BY5
     clear BY5
     have BY6 := Lib.hid (fun (w' : World) (h : Below W10.heap.size W10 w') => BX6.out w' (h910.trans (h.mono h910.size)))
     clear BX6
     have BX6 := BY6
     clear BY6
     have BY7 := Lib.hid (fun (w' : World) (h : Below W10.heap.size W10 w') => BX7.out w' (h910.trans (h.mono h910.size)))
     clear BX7
     have BX7 := BY7
     clear BY7
     have BY8 := Lib.hid (fun (w' : World) (h : Below W10.heap.size W10 w') => BX8.out w' (h910.trans (h.mono h910.size)))
     clear BX8
     have BX8 := BY8
     clear BY8
     have H10 := Lib.hid (H9.out.trans (h910.mono H9.out.size))
     have Hn := Lib.hid hnodes
     have Hbb := Lib.hid hbb
     clear hl9 hm9 hnodes hbb h910 hc9
     go_wp2_with fail
     go_loopw [10] (fun i wr => ∃ j : Nat, i = .int .i64 j ∧ j ≤ 10 ∧ Hid (Below W10.heap.size W10 wr)) (fun i _ => 10 - (intOf i).toNat)
     case atStart => exact ⟨0, rfl, by omega, Lib.hid (Below.refl _ _)⟩
     case round =>
       obtain ⟨j, rfl, hj, hB⟩ := hrel
       by_cases hjl : j < 10
       · have hdj : decide ((j : Int) < 10) = true := by simp; omega
         have hjl2 : j < badL.length := by rw [bad_len]; exact hjl
         obtain ⟨es, hcell, hchild⟩ := vals_get W10 bb badL boff Hn.out j hjl2
         have hno := bad_no j hjl2
         obtain ⟨x, hx⟩ : ∃ x, x = badL[j] := ⟨_, rfl⟩
         rw [← hx] at hno hchild
         have Hg := Lib.hid hno.1
         have Hf := Lib.hid hno.2
         have BXJ := Lib.hid (fun (w' : World) (h : Below wr.heap.size wr w') => And.intro (hcell.below Hbb.out (hB.out.trans (h.mono hB.out.size))) (Vl.at_below (hB.out.trans (h.mono hB.out.size)) (Nat.le_refl _) _ _ hchild))
         have BX80 := BX8
         have BX8 := Lib.hid (fun (w' : World) (h : Below wr.heap.size wr w') => BX80.out w' (hB.out.trans (h.mono hB.out.size)))
         clear hcell hchild hno hx BX80
         go_upto_region 14 with fail
         go_cut [72] from 59 to 71 (fun v wx => v = .bool false ∧ ∃ w14, w14 = wx ∧ Below wr.heap.size wr w14)
         case first =>
          rename_i J K' hR hMet
          refine wp_region_guards2 (factAt (vk14 wr.heap.size bb boff cap9 j x)) (W0 := wr) (by kernel_rfl) (by kernel_rfl) (by kernel_rfl) (Below.refl _ _) (fun i v w w' h hk => factAt_stable (vk14_stable _ _ _ _ _ _) i v w w' h hk) [(6, false)] (by kernel_rfl) ?hgu ?hskip ?hop ?hend
          case hgu =>
            intro j hj v w h
            simp only [List.mem_cons, List.not_mem_nil, or_false] at hj
            rcases hj with rfl
            · exact fact_get (P := isEq (.bool false)) rfl h
          case hskip =>
            refine AllG.get0 ?_
            refine AllG.cons (k' := 1) rfl (fun h => by have h' : true = false := h; cases h') ?_
            refine AllG.cons (k' := 2) rfl (fun h => by have h' : true = false := h; cases h') ?_
            refine AllG.cons (k' := 3) rfl (fun h => by have h' : true = false := h; cases h') ?_
            refine AllG.cons (k' := 4) rfl (fun h => by have h' : true = false := h; cases h') ?_
            refine AllG.cons (k' := 5) rfl (fun h => by have h' : true = false := h; cases h') ?_
            refine AllG.cons (k' := 6) rfl (fun h => by have h' : true = false := h; cases h') ?_
            refine AllG.cons (k' := 7) rfl (fun h => by have h' : true = false := h; cases h') ?_
            refine AllG.cons (k' := 8) rfl (fun h => by have h' : true = false := h; cases h') ?_
            refine AllG.cons (k' := 9) rfl (fun h => by have h' : true = false := h; cases h') ?_
            refine AllG.cons (k' := 10) rfl (fun h => by have h' : true = false := h; cases h') ?_
            refine AllG.cons (k' := 11) rfl (fun h => by have h' : true = false := h; cases h') ?_
            refine AllG.cons (k' := 12) rfl (fun h => by have h' : true = false := h; cases h') ?_
            refine AllG.cons (k' := 13) rfl (fun h => by have h' : true = false := h; cases h') ?_
            refine AllG.cons (k' := 14) rfl (fun h => by have h' : true = false := h; cases h') ?_
            exact AllG.nil
          case hop =>
            refine AllG.get0 ?_
            refine AllG.cons (k' := 1) rfl ?_ ?_
            · intro _
              intro a' w' hB hk hin KK hK
              refine wp_load_coreK _ rfl b8 0 _ (eval_tmp (by rw [hk 8 (by kernel_rfl)]; rfl)) (BX8.out _ hB).1 ?_
              exact hK _ _ hB (KeepsC.of_below (Below.refl _ _)) (fact_put (P := isCore (K.Cr.mk 4 0 0 [(K.Cr.mk 2 sA 0 []), (K.Cr.mk 1 0 0 [])])) rfl ⟨_, rfl, (BX8.out _ hB).2⟩)
            refine AllG.cons (k' := 2) rfl ?_ ?_
            · intro _
              intro a' w' hB hk hin KK hK
              have hkk : a'.tmps[9]? = some (.slice (some ⟨bb, boff, none⟩) 10 cap9) := (hk 9 (by kernel_rfl)).trans rfl
              have hev := eval_tmp hkk
              unfold Oper.wp execOp
              simp only [hev, Sem.run_pure]
              exact hK _ _ hB (KeepsC.of_below (Below.refl _ _)) (fact_put (P := isEq (.slice (some ⟨bb, boff, none⟩) 10 cap9)) rfl rfl)
            refine AllG.cons (k' := 3) rfl ?_ ?_
            · intro _
              intro a' w' hB hk hin KK hK
              have hkk : a'.tmps[10]? = some (.int .i64 (j : Int)) := (hk 10 (by kernel_rfl)).trans rfl
              have hev := eval_tmp hkk
              unfold Oper.wp execOp
              simp only [hev, Sem.run_pure]
              exact hK _ _ hB (KeepsC.of_below (Below.refl _ _)) (fact_put (P := isEq (.int .i64 (j : Int))) rfl rfl)
            refine AllG.cons (k' := 4) rfl ?_ ?_
            · intro _
              intro a' w' hB hk hin KK hK
              obtain ⟨v1, e1, q1⟩ := hin 1 _ 60 rfl rfl ⟨{ on := 1, ground := .data }, by simp, rfl, rfl⟩
              have q1 := fact_get (P := isEq (.slice (some ⟨bb, boff, none⟩) 10 cap9)) rfl q1
              have q1' : v1 = .slice (some ⟨bb, boff, none⟩) 10 cap9 := q1
              subst q1'
              obtain ⟨v2, e2, q2⟩ := hin 2 _ 61 rfl rfl ⟨{ on := 2, ground := .data }, by simp, rfl, rfl⟩
              have q2 := fact_get (P := isEq (.int .i64 (j : Int))) rfl q2
              have q2' : v2 = .int .i64 (j : Int) := q2
              subst q2'
              unfold Oper.wp execOp
              go_simp
              rw [if_pos (show (j : Int) < 10 by omega)]
              exact hK _ _ hB (KeepsC.of_below (Below.refl _ _)) (fact_put (P := isEq (.pointer (some ⟨bb, boff + j * 3, none⟩))) rfl rfl)
            refine AllG.cons (k' := 5) rfl ?_ ?_
            · intro _
              intro a' w' hB hk hin KK hK
              obtain ⟨v3, e3, q3⟩ := hin 3 _ 62 rfl rfl ⟨{ on := 3, ground := .data }, by simp, rfl, rfl⟩
              have q3 := fact_get (P := isEq (.pointer (some ⟨bb, boff + j * 3, none⟩))) rfl q3
              have q3' : v3 = .pointer (some ⟨bb, boff + j * 3, none⟩) := q3
              subst q3'
              refine wp_load_valK _ rfl bb (boff + j * 3) _ (eval_tmp e3) (BXJ.out _ hB).1 ?_
              exact hK _ _ hB (KeepsC.of_below (Below.refl _ _)) (fact_put (P := isVal x) rfl ⟨_, rfl, (BXJ.out _ hB).2⟩)
            refine AllG.cons (k' := 6) rfl ?_ ?_
            · intro _
              intro a' w' hB hk hin KK hK
              obtain ⟨v4, e4, q4⟩ := hin 0 _ 59 rfl rfl ⟨{ on := 0, ground := .data }, by simp, rfl, rfl⟩
              have q4 := fact_get (P := isCore (K.Cr.mk 4 0 0 [(K.Cr.mk 2 sA 0 []), (K.Cr.mk 1 0 0 [])])) rfl q4
              obtain ⟨zs4, r4, hat4⟩ := q4
              subst r4
              obtain ⟨v5, e5, q5⟩ := hin 4 _ 63 rfl rfl ⟨{ on := 4, ground := .data }, by simp, rfl, rfl⟩
              have q5 := fact_get (P := isVal x) rfl q5
              obtain ⟨zs5, r5, hat5⟩ := q5
              subst r5
              unfold Oper.wp execOp
              go_simp
              refine (good_eq (b := false) hat4 hat5 Hg.out).mono ?_
              rintro e wn ⟨rfl, hbn⟩
              exact hK _ _ (hB.trans (hbn.mono hB.size)) (KeepsC.of_below hbn) (fact_put (P := isEq (.bool false)) rfl rfl)
            refine AllG.cons (k' := 7) rfl ?_ ?_
            · intro _
              intro a' w' hB hk hin KK hK
              obtain ⟨v6, e6, q6⟩ := hin 5 _ 64 rfl rfl ⟨{ on := 5, ground := .data }, by simp, rfl, rfl⟩
              have q6 := fact_get (P := isEq (.bool false)) rfl q6
              have q6' : v6 = .bool false := q6
              subst q6'
              unfold Oper.wp execOp
              go_simp
              exact hK _ _ hB (KeepsC.of_below (Below.refl _ _)) (fact_put (P := isEq (.bool false)) rfl rfl)
            refine AllG.cons (k' := 8) rfl ?_ ?_
            · intro _
              intro a' w' hB hk hin KK hK
              refine wp_load_coreK _ rfl b8 0 _ (eval_tmp (by rw [hk 8 (by kernel_rfl)]; rfl)) (BX8.out _ hB).1 ?_
              exact hK _ _ hB (KeepsC.of_below (Below.refl _ _)) (fact_put (P := isCore (K.Cr.mk 4 0 0 [(K.Cr.mk 2 sA 0 []), (K.Cr.mk 1 0 0 [])])) rfl ⟨_, rfl, (BX8.out _ hB).2⟩)
            refine AllG.cons (k' := 9) rfl ?_ ?_
            · intro _
              intro a' w' hB hk hin KK hK
              have hkk : a'.tmps[9]? = some (.slice (some ⟨bb, boff, none⟩) 10 cap9) := (hk 9 (by kernel_rfl)).trans rfl
              have hev := eval_tmp hkk
              unfold Oper.wp execOp
              simp only [hev, Sem.run_pure]
              exact hK _ _ hB (KeepsC.of_below (Below.refl _ _)) (fact_put (P := isEq (.slice (some ⟨bb, boff, none⟩) 10 cap9)) rfl rfl)
            refine AllG.cons (k' := 10) rfl ?_ ?_
            · intro _
              intro a' w' hB hk hin KK hK
              have hkk : a'.tmps[10]? = some (.int .i64 (j : Int)) := (hk 10 (by kernel_rfl)).trans rfl
              have hev := eval_tmp hkk
              unfold Oper.wp execOp
              simp only [hev, Sem.run_pure]
              exact hK _ _ hB (KeepsC.of_below (Below.refl _ _)) (fact_put (P := isEq (.int .i64 (j : Int))) rfl rfl)
            refine AllG.cons (k' := 11) rfl ?_ ?_
            · intro _
              intro a' w' hB hk hin KK hK
              obtain ⟨v7, e7, q7⟩ := hin 8 _ 67 rfl rfl ⟨{ on := 8, ground := .data }, by simp, rfl, rfl⟩
              have q7 := fact_get (P := isEq (.slice (some ⟨bb, boff, none⟩) 10 cap9)) rfl q7
              have q7' : v7 = .slice (some ⟨bb, boff, none⟩) 10 cap9 := q7
              subst q7'
              obtain ⟨v8, e8, q8⟩ := hin 9 _ 68 rfl rfl ⟨{ on := 9, ground := .data }, by simp, rfl, rfl⟩
              have q8 := fact_get (P := isEq (.int .i64 (j : Int))) rfl q8
              have q8' : v8 = .int .i64 (j : Int) := q8
              subst q8'
              unfold Oper.wp execOp
              go_simp
              rw [if_pos (show (j : Int) < 10 by omega)]
              exact hK _ _ hB (KeepsC.of_below (Below.refl _ _)) (fact_put (P := isEq (.pointer (some ⟨bb, boff + j * 3, none⟩))) rfl rfl)
            refine AllG.cons (k' := 12) rfl ?_ ?_
            · intro _
              intro a' w' hB hk hin KK hK
              obtain ⟨v9, e9, q9⟩ := hin 10 _ 69 rfl rfl ⟨{ on := 10, ground := .data }, by simp, rfl, rfl⟩
              have q9 := fact_get (P := isEq (.pointer (some ⟨bb, boff + j * 3, none⟩))) rfl q9
              have q9' : v9 = .pointer (some ⟨bb, boff + j * 3, none⟩) := q9
              subst q9'
              refine wp_load_valK _ rfl bb (boff + j * 3) _ (eval_tmp e9) (BXJ.out _ hB).1 ?_
              exact hK _ _ hB (KeepsC.of_below (Below.refl _ _)) (fact_put (P := isVal x) rfl ⟨_, rfl, (BXJ.out _ hB).2⟩)
            refine AllG.cons (k' := 13) rfl ?_ ?_
            · intro _
              intro a' w' hB hk hin KK hK
              obtain ⟨v10, e10, q10⟩ := hin 7 _ 66 rfl rfl ⟨{ on := 7, ground := .data }, by simp, rfl, rfl⟩
              have q10 := fact_get (P := isCore (K.Cr.mk 4 0 0 [(K.Cr.mk 2 sA 0 []), (K.Cr.mk 1 0 0 [])])) rfl q10
              obtain ⟨zs10, r10, hat10⟩ := q10
              subst r10
              obtain ⟨v11, e11, q11⟩ := hin 11 _ 70 rfl rfl ⟨{ on := 11, ground := .data }, by simp, rfl, rfl⟩
              have q11 := fact_get (P := isVal x) rfl q11
              obtain ⟨zs11, r11, hat11⟩ := q11
              subst r11
              unfold Oper.wp execOp
              go_simp
              refine (full_eq (b := false) hat10 hat11 Hf.out).mono ?_
              rintro e wn ⟨rfl, hbn⟩
              exact hK _ _ (hB.trans (hbn.mono hB.size)) (KeepsC.of_below hbn) (fact_put (P := isEq (.bool false)) rfl rfl)
            refine AllG.cons (k' := 14) rfl ?_ ?_
            · intro _
              intro a' w' hB hk hin KK hK
              obtain ⟨v12, e12, q12⟩ := hin 6 _ 65 rfl rfl ⟨{ on := 6, ground := .data }, by simp, rfl, rfl⟩
              have q12 := fact_get (P := isEq (.bool false)) rfl q12
              have q12' : v12 = .bool false := q12
              subst q12'
              obtain ⟨v13, e13, q13⟩ := hin 12 _ 71 rfl rfl ⟨{ on := 12, ground := .data }, by simp, rfl, rfl⟩
              have q13 := fact_get (P := isEq (.bool false)) rfl q13
              have q13' : v13 = .bool false := q13
              subst q13'
              unfold Oper.wp execOp
              go_simp
              exact hK _ _ hB (KeepsC.of_below (Below.refl _ _)) (fact_put (P := isEq (.bool false)) rfl rfl)
            exact AllG.nil
          case hend =>
           intro a' w' hB hdef hsz hk hvals
           obtain ⟨v', hv', hvt⟩ := hvals 13 _ 72 rfl rfl
           have hvt' := fact_get (P := isEq (.bool false)) rfl hvt
           have hvt2 : v' = .bool false := hvt'
           subst hvt2
           have hf0 : a'.tmps.getD 72 undef = .bool false := by rw [Array.getD_eq_getD_getElem?, hv']; rfl
           have heq := act_eq hdef hsz hk
           refine hMet a' w' (Met.intro (hR a' w' ?_))
           refine ⟨a'.tmps.getD 59 undef, a'.tmps.getD 60 undef, a'.tmps.getD 61 undef, a'.tmps.getD 62 undef, a'.tmps.getD 63 undef, a'.tmps.getD 64 undef, a'.tmps.getD 65 undef, a'.tmps.getD 66 undef, a'.tmps.getD 67 undef, a'.tmps.getD 68 undef, a'.tmps.getD 69 undef, a'.tmps.getD 70 undef, a'.tmps.getD 71 undef, a'.tmps.getD 72 undef, ⟨hf0, w', rfl, hB⟩, heq.trans ?_⟩
           kernel_rfl
         case rest =>
          obtain ⟨rfl, w14, hw14, hb14⟩ := hcut
          subst hw14
          have H14 := Lib.hid hb14
          clear hb14
          go_wp2_with fail
          go_roundw
          case rel => exact ⟨j + 1, by go_num, by omega, Lib.hid (hB.out.trans (H14.out.mono hB.out.size))⟩
          case measure => simp [intOf]; omega
       · obtain rfl : j = 10 := by omega
         have BY1 := Lib.hid (fun (w' : World) (h : Below wr.heap.size wr w') => BX1.out w' (hB.out.trans (h.mono hB.out.size)))
         clear BX1
         have BX1 := BY1
         clear BY1
         have BY2 := Lib.hid (fun (w' : World) (h : Below wr.heap.size wr w') => BX2.out w' (hB.out.trans (h.mono hB.out.size)))
         clear BX2
         have BX2 := BY2
         clear BY2
         have BY3 := Lib.hid (fun (w' : World) (h : Below wr.heap.size wr w') => BX3.out w' (hB.out.trans (h.mono hB.out.size)))
         clear BX3
         have BX3 := BY3
         clear BY3
         have BY4 := Lib.hid (fun (w' : World) (h : Below wr.heap.size wr w') => BX4.out w' (hB.out.trans (h.mono hB.out.size)))
         clear BX4
         have BX4 := BY4
         clear BY4
         have BY5 := Lib.hid (fun (w' : World) (h : Below wr.heap.size wr w') => BX5.out w' (hB.out.trans (h.mono hB.out.size)))
         clear BX5
         have BX5 := BY5
         clear BY5
         have BY6 := Lib.hid (fun (w' : World) (h : Below wr.heap.size wr w') => BX6.out w' (hB.out.trans (h.mono hB.out.size)))
         clear BX6
         have BX6 := BY6
         clear BY6
         have BY7 := Lib.hid (fun (w' : World) (h : Below wr.heap.size wr w') => BX7.out w' (hB.out.trans (h.mono hB.out.size)))
         clear BX7
         have BX7 := BY7
         clear BY7
         have BY8 := Lib.hid (fun (w' : World) (h : Below wr.heap.size wr w') => BX8.out w' (hB.out.trans (h.mono hB.out.size)))
         clear BX8
         have BX8 := BY8
         clear BY8
         go_wp2_with fail
         go_cut [0] from 73 to 206 (fun v wx => v = .bool true ∧ Below wr.heap.size wr wx)
         case first =>
          rename_i J K' hR hMet
          refine wp_region_guards (factAt (vk16 wr.heap.size)) (W0 := wr) (by kernel_rfl) (by kernel_rfl) (by kernel_rfl) (Below.refl _ _) (fun i v w w' h hk => factAt_stable (vk16_stable _) i v w w' h hk) [3, 8, 15, 21, 28, 34, 40, 46, 52, 58, 63, 68, 73, 78, 85, 90, 95, 100, 107, 115, 123, 128] (by kernel_rfl) ?hgu ?hop ?hend
          case hgu =>
            intro j hj v w h
            simp only [List.mem_cons, List.not_mem_nil, or_false] at hj
            rcases hj with rfl | rfl | rfl | rfl | rfl | rfl | rfl | rfl | rfl | rfl | rfl | rfl | rfl | rfl | rfl | rfl | rfl | rfl | rfl | rfl | rfl | rfl
            · exact fact_get (P := isEq (.bool true)) rfl h
            · exact fact_get (P := isEq (.bool true)) rfl h
            · exact fact_get (P := isEq (.bool true)) rfl h
            · exact fact_get (P := isEq (.bool true)) rfl h
            · exact fact_get (P := isEq (.bool true)) rfl h
            · exact fact_get (P := isEq (.bool true)) rfl h
            · exact fact_get (P := isEq (.bool true)) rfl h
            · exact fact_get (P := isEq (.bool true)) rfl h
            · exact fact_get (P := isEq (.bool true)) rfl h
            · exact fact_get (P := isEq (.bool true)) rfl h
            · exact fact_get (P := isEq (.bool true)) rfl h
            · exact fact_get (P := isEq (.bool true)) rfl h
            · exact fact_get (P := isEq (.bool true)) rfl h
            · exact fact_get (P := isEq (.bool true)) rfl h
            · exact fact_get (P := isEq (.bool true)) rfl h
            · exact fact_get (P := isEq (.bool true)) rfl h
            · exact fact_get (P := isEq (.bool true)) rfl h
            · exact fact_get (P := isEq (.bool true)) rfl h
            · exact fact_get (P := isEq (.bool true)) rfl h
            · exact fact_get (P := isEq (.bool true)) rfl h
            · exact fact_get (P := isEq (.bool true)) rfl h
            · exact fact_get (P := isEq (.bool true)) rfl h
          case hop =>
            refine AllG.get0 ?_
            refine AllG.cons (k' := 1) rfl ?_ ?_
            · intro a' w' hB hk hin KK hK
              refine wp_load_coreK _ rfl b8 0 _ (eval_tmp (by rw [hk 8 (by kernel_rfl)]; rfl)) (BX8.out _ hB).1 ?_
              exact hK _ _ hB (KeepsC.of_below (Below.refl _ _)) (fact_put (P := isCore (K.Cr.mk 4 0 0 [(K.Cr.mk 2 sA 0 []), (K.Cr.mk 1 0 0 [])])) rfl ⟨_, rfl, (BX8.out _ hB).2⟩)
            refine AllG.cons (k' := 2) rfl ?_ ?_
            · intro a' w' hB hk hin KK hK
              refine wp_load_valK _ rfl b3 0 _ (eval_tmp (by rw [hk 3 (by kernel_rfl)]; rfl)) (BX3.out _ hB).1 ?_
              exact hK _ _ hB (KeepsC.of_below (Below.refl _ _)) (fact_put (P := isVal (Vl.mk 4 0 [(Vl.mk 2 97 [])])) rfl ⟨_, rfl, (BX3.out _ hB).2⟩)
            refine AllG.cons (k' := 3) rfl ?_ ?_
            · intro a' w' hB hk hin KK hK
              obtain ⟨v1, e1, q1⟩ := hin 0 _ 73 rfl rfl ⟨{ on := 0, ground := .data }, by simp, rfl, rfl⟩
              have q1 := fact_get (P := isCore (K.Cr.mk 4 0 0 [(K.Cr.mk 2 sA 0 []), (K.Cr.mk 1 0 0 [])])) rfl q1
              obtain ⟨zs1, r1, hat1⟩ := q1
              subst r1
              obtain ⟨v2, e2, q2⟩ := hin 1 _ 74 rfl rfl ⟨{ on := 1, ground := .data }, by simp, rfl, rfl⟩
              have q2 := fact_get (P := isVal (Vl.mk 4 0 [(Vl.mk 2 97 [])])) rfl q2
              obtain ⟨zs2, r2, hat2⟩ := q2
              subst r2
              unfold Oper.wp execOp
              go_simp
              refine (good_eq (b := true) hat1 hat2 (by decide +kernel)).mono ?_
              rintro e wn ⟨rfl, hbn⟩
              exact hK _ _ (hB.trans (hbn.mono hB.size)) (KeepsC.of_below hbn) (fact_put (P := isEq (.bool true)) rfl rfl)
            refine AllG.cons (k' := 4) rfl ?_ ?_
            · intro a' w' hB hk hin KK hK
              obtain ⟨v3, e3, q3⟩ := hin 2 _ 75 rfl rfl ⟨{ on := 2, ground := .data }, by simp, rfl, rfl⟩
              have q3 := fact_get (P := isEq (.bool true)) rfl q3
              have q3' : v3 = .bool true := q3
              subst q3'
              unfold Oper.wp execOp
              go_simp
              exact hK _ _ hB (KeepsC.of_below (Below.refl _ _)) (fact_put (P := isEq (.bool true)) rfl rfl)
            refine AllG.cons (k' := 5) rfl ?_ ?_
            · intro a' w' hB hk hin KK hK
              refine wp_load_coreK _ rfl b8 0 _ (eval_tmp (by rw [hk 8 (by kernel_rfl)]; rfl)) (BX8.out _ hB).1 ?_
              exact hK _ _ hB (KeepsC.of_below (Below.refl _ _)) (fact_put (P := isCore (K.Cr.mk 4 0 0 [(K.Cr.mk 2 sA 0 []), (K.Cr.mk 1 0 0 [])])) rfl ⟨_, rfl, (BX8.out _ hB).2⟩)
            refine AllG.cons (k' := 6) rfl ?_ ?_
            · intro a' w' hB hk hin KK hK
              refine wp_load_valK _ rfl b4 0 _ (eval_tmp (by rw [hk 4 (by kernel_rfl)]; rfl)) (BX4.out _ hB).1 ?_
              exact hK _ _ hB (KeepsC.of_below (Below.refl _ _)) (fact_put (P := isVal (Vl.mk 5 0 [(Vl.mk 1 0 [])])) rfl ⟨_, rfl, (BX4.out _ hB).2⟩)
            refine AllG.cons (k' := 7) rfl ?_ ?_
            · intro a' w' hB hk hin KK hK
              obtain ⟨v4, e4, q4⟩ := hin 4 _ 77 rfl rfl ⟨{ on := 4, ground := .data }, by simp, rfl, rfl⟩
              have q4 := fact_get (P := isCore (K.Cr.mk 4 0 0 [(K.Cr.mk 2 sA 0 []), (K.Cr.mk 1 0 0 [])])) rfl q4
              obtain ⟨zs4, r4, hat4⟩ := q4
              subst r4
              obtain ⟨v5, e5, q5⟩ := hin 5 _ 78 rfl rfl ⟨{ on := 5, ground := .data }, by simp, rfl, rfl⟩
              have q5 := fact_get (P := isVal (Vl.mk 5 0 [(Vl.mk 1 0 [])])) rfl q5
              obtain ⟨zs5, r5, hat5⟩ := q5
              subst r5
              unfold Oper.wp execOp
              go_simp
              refine (good_eq (b := true) hat4 hat5 (by decide +kernel)).mono ?_
              rintro e wn ⟨rfl, hbn⟩
              exact hK _ _ (hB.trans (hbn.mono hB.size)) (KeepsC.of_below hbn) (fact_put (P := isEq (.bool true)) rfl rfl)
            refine AllG.cons (k' := 8) rfl ?_ ?_
            · intro a' w' hB hk hin KK hK
              obtain ⟨v6, e6, q6⟩ := hin 3 _ 76 rfl rfl ⟨{ on := 3, ground := .data }, by simp, rfl, rfl⟩
              have q6 := fact_get (P := isEq (.bool true)) rfl q6
              have q6' : v6 = .bool true := q6
              subst q6'
              obtain ⟨v7, e7, q7⟩ := hin 6 _ 79 rfl rfl ⟨{ on := 6, ground := .data }, by simp, rfl, rfl⟩
              have q7 := fact_get (P := isEq (.bool true)) rfl q7
              have q7' : v7 = .bool true := q7
              subst q7'
              unfold Oper.wp execOp
              go_simp
              exact hK _ _ hB (KeepsC.of_below (Below.refl _ _)) (fact_put (P := isEq (.bool true)) rfl rfl)
            refine AllG.cons (k' := 9) rfl ?_ ?_
            · intro a' w' hB hk hin KK hK
              obtain ⟨v8, e8, q8⟩ := hin 7 _ 80 rfl rfl ⟨{ on := 7, ground := .data }, by simp, rfl, rfl⟩
              have q8 := fact_get (P := isEq (.bool true)) rfl q8
              have q8' : v8 = .bool true := q8
              subst q8'
              unfold Oper.wp execOp
              go_simp
              exact hK _ _ hB (KeepsC.of_below (Below.refl _ _)) (fact_put (P := isEq (.bool true)) rfl rfl)
            refine AllG.cons (k' := 10) rfl ?_ ?_
            · intro a' w' hB hk hin KK hK
              unfold Oper.wp execOp
              go_simp
              exact hK _ _ (hB.alloc hB.size _) (KeepsC.of_below ((Below.refl _ _).alloc (Nat.le_refl _) _)) (fact_put (P := isLit _ [97]) rfl ⟨w'.heap.size, _, _, rfl, World.alloc_heap_new _ _, bytes_lit w' [97] #[.int .u8 97] rfl (by decide) (by decide), hB.size⟩)
            refine AllG.cons (k' := 11) rfl ?_ ?_
            · intro a' w' hB hk hin KK hK
              obtain ⟨v9, e9, q9⟩ := hin 9 _ 82 rfl rfl ⟨{ on := 9, ground := .data }, by simp, rfl, rfl⟩
              have q9 := fact_get (P := isLit _ [97]) rfl q9
              obtain ⟨b9, cs9, f9, r9, hh9, hy9, hz9⟩ := q9
              subst r9
              unfold Oper.wp execOp
              go_simp
              refine (ch_eq (s := sA) hy9 rfl).mono ?_
              rintro e wn ⟨zz, rfl, hat, hbn⟩
              exact hK _ _ (hB.trans (hbn.mono hB.size)) (KeepsC.of_below hbn) (fact_put (P := isCore (K.Cr.mk 2 sA 0 [])) rfl ⟨zz, rfl, hat⟩)
            refine AllG.cons (k' := 12) rfl ?_ ?_
            · intro a' w' hB hk hin KK hK
              obtain ⟨v10, e10, q10⟩ := hin 10 _ 83 rfl rfl ⟨{ on := 10, ground := .data }, by simp, rfl, rfl⟩
              have q10 := fact_get (P := isCore (K.Cr.mk 2 sA 0 [])) rfl q10
              obtain ⟨zs10, r10, hat10⟩ := q10
              subst r10
              unfold Oper.wp execOp
              go_simp
              refine (K.star_walk hat10).mono ?_
              rintro e wn ⟨zz, rfl, hat, hbn⟩
              exact hK _ _ (hB.trans (hbn.mono hB.size)) (KeepsC.of_below hbn) (fact_put (P := isCore (K.Cr.mk 5 0 0 [(K.Cr.mk 2 sA 0 [])])) rfl ⟨zz, rfl, hat⟩)
            refine AllG.cons (k' := 13) rfl ?_ ?_
            · intro a' w' hB hk hin KK hK
              refine wp_load_valK _ rfl (W5.heap.size + 1) 0 _ (eval_tmp (by rw [hk 5 (by kernel_rfl)]; rfl)) (BX5.out _ hB).1 ?_
              exact hK _ _ hB (KeepsC.of_below (Below.refl _ _)) (fact_put (P := isVal (Vl.mk 6 0 [(Vl.mk 2 97 []), (Vl.mk 2 97 [])])) rfl ⟨_, rfl, (BX5.out _ hB).2⟩)
            refine AllG.cons (k' := 14) rfl ?_ ?_
            · intro a' w' hB hk hin KK hK
              obtain ⟨v11, e11, q11⟩ := hin 11 _ 84 rfl rfl ⟨{ on := 11, ground := .data }, by simp, rfl, rfl⟩
              have q11 := fact_get (P := isCore (K.Cr.mk 5 0 0 [(K.Cr.mk 2 sA 0 [])])) rfl q11
              obtain ⟨zs11, r11, hat11⟩ := q11
              subst r11
              obtain ⟨v12, e12, q12⟩ := hin 12 _ 85 rfl rfl ⟨{ on := 12, ground := .data }, by simp, rfl, rfl⟩
              have q12 := fact_get (P := isVal (Vl.mk 6 0 [(Vl.mk 2 97 []), (Vl.mk 2 97 [])])) rfl q12
              obtain ⟨zs12, r12, hat12⟩ := q12
              subst r12
              unfold Oper.wp execOp
              go_simp
              refine (full_eq (b := true) hat11 hat12 (by decide +kernel)).mono ?_
              rintro e wn ⟨rfl, hbn⟩
              exact hK _ _ (hB.trans (hbn.mono hB.size)) (KeepsC.of_below hbn) (fact_put (P := isEq (.bool true)) rfl rfl)
            refine AllG.cons (k' := 15) rfl ?_ ?_
            · intro a' w' hB hk hin KK hK
              obtain ⟨v13, e13, q13⟩ := hin 8 _ 81 rfl rfl ⟨{ on := 8, ground := .data }, by simp, rfl, rfl⟩
              have q13 := fact_get (P := isEq (.bool true)) rfl q13
              have q13' : v13 = .bool true := q13
              subst q13'
              obtain ⟨v14, e14, q14⟩ := hin 13 _ 86 rfl rfl ⟨{ on := 13, ground := .data }, by simp, rfl, rfl⟩
              have q14 := fact_get (P := isEq (.bool true)) rfl q14
              have q14' : v14 = .bool true := q14
              subst q14'
              unfold Oper.wp execOp
              go_simp
              exact hK _ _ hB (KeepsC.of_below (Below.refl _ _)) (fact_put (P := isEq (.bool true)) rfl rfl)
            refine AllG.cons (k' := 16) rfl ?_ ?_
            · intro a' w' hB hk hin KK hK
              obtain ⟨v15, e15, q15⟩ := hin 14 _ 87 rfl rfl ⟨{ on := 14, ground := .data }, by simp, rfl, rfl⟩
              have q15 := fact_get (P := isEq (.bool true)) rfl q15
              have q15' : v15 = .bool true := q15
              subst q15'
              unfold Oper.wp execOp
              go_simp
              exact hK _ _ hB (KeepsC.of_below (Below.refl _ _)) (fact_put (P := isEq (.bool true)) rfl rfl)
            refine AllG.cons (k' := 17) rfl ?_ ?_
            · intro a' w' hB hk hin KK hK
              unfold Oper.wp execOp
              go_simp
              refine (K.eps_walk w').mono ?_
              rintro e wn ⟨zz, rfl, hat, hbn⟩
              exact hK _ _ (hB.trans (hbn.mono hB.size)) (KeepsC.of_below hbn) (fact_put (P := isCore (K.Cr.mk 1 0 0 [])) rfl ⟨zz, rfl, hat⟩)
            refine AllG.cons (k' := 18) rfl ?_ ?_
            · intro a' w' hB hk hin KK hK
              obtain ⟨v16, e16, q16⟩ := hin 16 _ 89 rfl rfl ⟨{ on := 16, ground := .data }, by simp, rfl, rfl⟩
              have q16 := fact_get (P := isCore (K.Cr.mk 1 0 0 [])) rfl q16
              obtain ⟨zs16, r16, hat16⟩ := q16
              subst r16
              unfold Oper.wp execOp
              go_simp
              refine (K.star_walk hat16).mono ?_
              rintro e wn ⟨zz, rfl, hat, hbn⟩
              exact hK _ _ (hB.trans (hbn.mono hB.size)) (KeepsC.of_below hbn) (fact_put (P := isCore (K.Cr.mk 5 0 0 [(K.Cr.mk 1 0 0 [])])) rfl ⟨zz, rfl, hat⟩)
            refine AllG.cons (k' := 19) rfl ?_ ?_
            · intro a' w' hB hk hin KK hK
              refine wp_load_valK _ rfl (W5.heap.size + 1 + 1 + 1) 0 _ (eval_tmp (by rw [hk 6 (by kernel_rfl)]; rfl)) (BX6.out _ hB).1 ?_
              exact hK _ _ hB (KeepsC.of_below (Below.refl _ _)) (fact_put (P := isVal (Vl.mk 6 0 [(Vl.mk 1 0 [])])) rfl ⟨_, rfl, (BX6.out _ hB).2⟩)
            refine AllG.cons (k' := 20) rfl ?_ ?_
            · intro a' w' hB hk hin KK hK
              obtain ⟨v17, e17, q17⟩ := hin 17 _ 90 rfl rfl ⟨{ on := 17, ground := .data }, by simp, rfl, rfl⟩
              have q17 := fact_get (P := isCore (K.Cr.mk 5 0 0 [(K.Cr.mk 1 0 0 [])])) rfl q17
              obtain ⟨zs17, r17, hat17⟩ := q17
              subst r17
              obtain ⟨v18, e18, q18⟩ := hin 18 _ 91 rfl rfl ⟨{ on := 18, ground := .data }, by simp, rfl, rfl⟩
              have q18 := fact_get (P := isVal (Vl.mk 6 0 [(Vl.mk 1 0 [])])) rfl q18
              obtain ⟨zs18, r18, hat18⟩ := q18
              subst r18
              unfold Oper.wp execOp
              go_simp
              refine (good_eq (b := true) hat17 hat18 (by decide +kernel)).mono ?_
              rintro e wn ⟨rfl, hbn⟩
              exact hK _ _ (hB.trans (hbn.mono hB.size)) (KeepsC.of_below hbn) (fact_put (P := isEq (.bool true)) rfl rfl)
            refine AllG.cons (k' := 21) rfl ?_ ?_
            · intro a' w' hB hk hin KK hK
              obtain ⟨v19, e19, q19⟩ := hin 15 _ 88 rfl rfl ⟨{ on := 15, ground := .data }, by simp, rfl, rfl⟩
              have q19 := fact_get (P := isEq (.bool true)) rfl q19
              have q19' : v19 = .bool true := q19
              subst q19'
              obtain ⟨v20, e20, q20⟩ := hin 19 _ 92 rfl rfl ⟨{ on := 19, ground := .data }, by simp, rfl, rfl⟩
              have q20 := fact_get (P := isEq (.bool true)) rfl q20
              have q20' : v20 = .bool true := q20
              subst q20'
              unfold Oper.wp execOp
              go_simp
              exact hK _ _ hB (KeepsC.of_below (Below.refl _ _)) (fact_put (P := isEq (.bool true)) rfl rfl)
            refine AllG.cons (k' := 22) rfl ?_ ?_
            · intro a' w' hB hk hin KK hK
              obtain ⟨v21, e21, q21⟩ := hin 20 _ 93 rfl rfl ⟨{ on := 20, ground := .data }, by simp, rfl, rfl⟩
              have q21 := fact_get (P := isEq (.bool true)) rfl q21
              have q21' : v21 = .bool true := q21
              subst q21'
              unfold Oper.wp execOp
              go_simp
              exact hK _ _ hB (KeepsC.of_below (Below.refl _ _)) (fact_put (P := isEq (.bool true)) rfl rfl)
            refine AllG.cons (k' := 23) rfl ?_ ?_
            · intro a' w' hB hk hin KK hK
              unfold Oper.wp execOp
              go_simp
              refine (K.eps_walk w').mono ?_
              rintro e wn ⟨zz, rfl, hat, hbn⟩
              exact hK _ _ (hB.trans (hbn.mono hB.size)) (KeepsC.of_below hbn) (fact_put (P := isCore (K.Cr.mk 1 0 0 [])) rfl ⟨zz, rfl, hat⟩)
            refine AllG.cons (k' := 24) rfl ?_ ?_
            · intro a' w' hB hk hin KK hK
              obtain ⟨v22, e22, q22⟩ := hin 22 _ 95 rfl rfl ⟨{ on := 22, ground := .data }, by simp, rfl, rfl⟩
              have q22 := fact_get (P := isCore (K.Cr.mk 1 0 0 [])) rfl q22
              obtain ⟨zs22, r22, hat22⟩ := q22
              subst r22
              unfold Oper.wp execOp
              go_simp
              refine (K.star_walk hat22).mono ?_
              rintro e wn ⟨zz, rfl, hat, hbn⟩
              exact hK _ _ (hB.trans (hbn.mono hB.size)) (KeepsC.of_below hbn) (fact_put (P := isCore (K.Cr.mk 5 0 0 [(K.Cr.mk 1 0 0 [])])) rfl ⟨zz, rfl, hat⟩)
            refine AllG.cons (k' := 25) rfl ?_ ?_
            · intro a' w' hB hk hin KK hK
              refine wp_load_valK _ rfl (W5.heap.size + 1 + 1 + 1) 0 _ (eval_tmp (by rw [hk 6 (by kernel_rfl)]; rfl)) (BX6.out _ hB).1 ?_
              exact hK _ _ hB (KeepsC.of_below (Below.refl _ _)) (fact_put (P := isVal (Vl.mk 6 0 [(Vl.mk 1 0 [])])) rfl ⟨_, rfl, (BX6.out _ hB).2⟩)
            refine AllG.cons (k' := 26) rfl ?_ ?_
            · intro a' w' hB hk hin KK hK
              obtain ⟨v23, e23, q23⟩ := hin 23 _ 96 rfl rfl ⟨{ on := 23, ground := .data }, by simp, rfl, rfl⟩
              have q23 := fact_get (P := isCore (K.Cr.mk 5 0 0 [(K.Cr.mk 1 0 0 [])])) rfl q23
              obtain ⟨zs23, r23, hat23⟩ := q23
              subst r23
              obtain ⟨v24, e24, q24⟩ := hin 24 _ 97 rfl rfl ⟨{ on := 24, ground := .data }, by simp, rfl, rfl⟩
              have q24 := fact_get (P := isVal (Vl.mk 6 0 [(Vl.mk 1 0 [])])) rfl q24
              obtain ⟨zs24, r24, hat24⟩ := q24
              subst r24
              unfold Oper.wp execOp
              go_simp
              refine (full_eq (b := false) hat23 hat24 (by decide +kernel)).mono ?_
              rintro e wn ⟨rfl, hbn⟩
              exact hK _ _ (hB.trans (hbn.mono hB.size)) (KeepsC.of_below hbn) (fact_put (P := isEq (.bool false)) rfl rfl)
            refine AllG.cons (k' := 27) rfl ?_ ?_
            · intro a' w' hB hk hin KK hK
              obtain ⟨v25, e25, q25⟩ := hin 25 _ 98 rfl rfl ⟨{ on := 25, ground := .data }, by simp, rfl, rfl⟩
              have q25 := fact_get (P := isEq (.bool false)) rfl q25
              have q25' : v25 = .bool false := q25
              subst q25'
              unfold Oper.wp execOp
              go_simp
              exact hK _ _ hB (KeepsC.of_below (Below.refl _ _)) (fact_put (P := isEq (.bool true)) rfl rfl)
            refine AllG.cons (k' := 28) rfl ?_ ?_
            · intro a' w' hB hk hin KK hK
              obtain ⟨v26, e26, q26⟩ := hin 21 _ 94 rfl rfl ⟨{ on := 21, ground := .data }, by simp, rfl, rfl⟩
              have q26 := fact_get (P := isEq (.bool true)) rfl q26
              have q26' : v26 = .bool true := q26
              subst q26'
              obtain ⟨v27, e27, q27⟩ := hin 26 _ 99 rfl rfl ⟨{ on := 26, ground := .data }, by simp, rfl, rfl⟩
              have q27 := fact_get (P := isEq (.bool true)) rfl q27
              have q27' : v27 = .bool true := q27
              subst q27'
              unfold Oper.wp execOp
              go_simp
              exact hK _ _ hB (KeepsC.of_below (Below.refl _ _)) (fact_put (P := isEq (.bool true)) rfl rfl)
            refine AllG.cons (k' := 29) rfl ?_ ?_
            · intro a' w' hB hk hin KK hK
              obtain ⟨v28, e28, q28⟩ := hin 27 _ 100 rfl rfl ⟨{ on := 27, ground := .data }, by simp, rfl, rfl⟩
              have q28 := fact_get (P := isEq (.bool true)) rfl q28
              have q28' : v28 = .bool true := q28
              subst q28'
              unfold Oper.wp execOp
              go_simp
              exact hK _ _ hB (KeepsC.of_below (Below.refl _ _)) (fact_put (P := isEq (.bool true)) rfl rfl)
            refine AllG.cons (k' := 30) rfl ?_ ?_
            · intro a' w' hB hk hin KK hK
              unfold Oper.wp execOp
              go_simp
              refine (K.eps_walk w').mono ?_
              rintro e wn ⟨zz, rfl, hat, hbn⟩
              exact hK _ _ (hB.trans (hbn.mono hB.size)) (KeepsC.of_below hbn) (fact_put (P := isCore (K.Cr.mk 1 0 0 [])) rfl ⟨zz, rfl, hat⟩)
            refine AllG.cons (k' := 31) rfl ?_ ?_
            · intro a' w' hB hk hin KK hK
              obtain ⟨v29, e29, q29⟩ := hin 29 _ 102 rfl rfl ⟨{ on := 29, ground := .data }, by simp, rfl, rfl⟩
              have q29 := fact_get (P := isCore (K.Cr.mk 1 0 0 [])) rfl q29
              obtain ⟨zs29, r29, hat29⟩ := q29
              subst r29
              unfold Oper.wp execOp
              go_simp
              refine (K.star_walk hat29).mono ?_
              rintro e wn ⟨zz, rfl, hat, hbn⟩
              exact hK _ _ (hB.trans (hbn.mono hB.size)) (KeepsC.of_below hbn) (fact_put (P := isCore (K.Cr.mk 5 0 0 [(K.Cr.mk 1 0 0 [])])) rfl ⟨zz, rfl, hat⟩)
            refine AllG.cons (k' := 32) rfl ?_ ?_
            · intro a' w' hB hk hin KK hK
              unfold Oper.wp execOp
              go_simp
              exact hK _ _ hB (KeepsC.of_below (Below.refl _ _)) (fact_put (P := isVal (Vl.mk 6 0 [])) rfl ⟨[_, _, _], rfl, at_plain rfl (by decide)⟩)
            refine AllG.cons (k' := 33) rfl ?_ ?_
            · intro a' w' hB hk hin KK hK
              obtain ⟨v30, e30, q30⟩ := hin 30 _ 103 rfl rfl ⟨{ on := 30, ground := .data }, by simp, rfl, rfl⟩
              have q30 := fact_get (P := isCore (K.Cr.mk 5 0 0 [(K.Cr.mk 1 0 0 [])])) rfl q30
              obtain ⟨zs30, r30, hat30⟩ := q30
              subst r30
              obtain ⟨v31, e31, q31⟩ := hin 31 _ 104 rfl rfl ⟨{ on := 31, ground := .data }, by simp, rfl, rfl⟩
              have q31 := fact_get (P := isVal (Vl.mk 6 0 [])) rfl q31
              obtain ⟨zs31, r31, hat31⟩ := q31
              subst r31
              unfold Oper.wp execOp
              go_simp
              refine (full_eq (b := true) hat30 hat31 (by decide +kernel)).mono ?_
              rintro e wn ⟨rfl, hbn⟩
              exact hK _ _ (hB.trans (hbn.mono hB.size)) (KeepsC.of_below hbn) (fact_put (P := isEq (.bool true)) rfl rfl)
            refine AllG.cons (k' := 34) rfl ?_ ?_
            · intro a' w' hB hk hin KK hK
              obtain ⟨v32, e32, q32⟩ := hin 28 _ 101 rfl rfl ⟨{ on := 28, ground := .data }, by simp, rfl, rfl⟩
              have q32 := fact_get (P := isEq (.bool true)) rfl q32
              have q32' : v32 = .bool true := q32
              subst q32'
              obtain ⟨v33, e33, q33⟩ := hin 32 _ 105 rfl rfl ⟨{ on := 32, ground := .data }, by simp, rfl, rfl⟩
              have q33 := fact_get (P := isEq (.bool true)) rfl q33
              have q33' : v33 = .bool true := q33
              subst q33'
              unfold Oper.wp execOp
              go_simp
              exact hK _ _ hB (KeepsC.of_below (Below.refl _ _)) (fact_put (P := isEq (.bool true)) rfl rfl)
            refine AllG.cons (k' := 35) rfl ?_ ?_
            · intro a' w' hB hk hin KK hK
              obtain ⟨v34, e34, q34⟩ := hin 33 _ 106 rfl rfl ⟨{ on := 33, ground := .data }, by simp, rfl, rfl⟩
              have q34 := fact_get (P := isEq (.bool true)) rfl q34
              have q34' : v34 = .bool true := q34
              subst q34'
              unfold Oper.wp execOp
              go_simp
              exact hK _ _ hB (KeepsC.of_below (Below.refl _ _)) (fact_put (P := isEq (.bool true)) rfl rfl)
            refine AllG.cons (k' := 36) rfl ?_ ?_
            · intro a' w' hB hk hin KK hK
              refine wp_load_coreK _ rfl b8 0 _ (eval_tmp (by rw [hk 8 (by kernel_rfl)]; rfl)) (BX8.out _ hB).1 ?_
              exact hK _ _ hB (KeepsC.of_below (Below.refl _ _)) (fact_put (P := isCore (K.Cr.mk 4 0 0 [(K.Cr.mk 2 sA 0 []), (K.Cr.mk 1 0 0 [])])) rfl ⟨_, rfl, (BX8.out _ hB).2⟩)
            refine AllG.cons (k' := 37) rfl ?_ ?_
            · intro a' w' hB hk hin KK hK
              obtain ⟨v35, e35, q35⟩ := hin 35 _ 108 rfl rfl ⟨{ on := 35, ground := .data }, by simp, rfl, rfl⟩
              have q35 := fact_get (P := isCore (K.Cr.mk 4 0 0 [(K.Cr.mk 2 sA 0 []), (K.Cr.mk 1 0 0 [])])) rfl q35
              obtain ⟨zs35, r35, hat35⟩ := q35
              subst r35
              unfold Oper.wp execOp
              go_simp
              refine (K.grp_walk 3 rfl hat35).mono ?_
              rintro e wn ⟨zz, rfl, hat, hbn⟩
              exact hK _ _ (hB.trans (hbn.mono hB.size)) (KeepsC.of_below hbn) (fact_put (P := isCore (K.Cr.mk 6 0 3 [(K.Cr.mk 4 0 0 [(K.Cr.mk 2 sA 0 []), (K.Cr.mk 1 0 0 [])])])) rfl ⟨zz, rfl, hat⟩)
            refine AllG.cons (k' := 38) rfl ?_ ?_
            · intro a' w' hB hk hin KK hK
              refine wp_load_valK _ rfl (W5.heap.size + 1 + 1 + 1 + 1 + 1) 0 _ (eval_tmp (by rw [hk 7 (by kernel_rfl)]; rfl)) (BX7.out _ hB).1 ?_
              exact hK _ _ hB (KeepsC.of_below (Below.refl _ _)) (fact_put (P := isVal (Vl.mk 7 0 [(Vl.mk 4 0 [(Vl.mk 2 97 [])])])) rfl ⟨_, rfl, (BX7.out _ hB).2⟩)
            refine AllG.cons (k' := 39) rfl ?_ ?_
            · intro a' w' hB hk hin KK hK
              obtain ⟨v36, e36, q36⟩ := hin 36 _ 109 rfl rfl ⟨{ on := 36, ground := .data }, by simp, rfl, rfl⟩
              have q36 := fact_get (P := isCore (K.Cr.mk 6 0 3 [(K.Cr.mk 4 0 0 [(K.Cr.mk 2 sA 0 []), (K.Cr.mk 1 0 0 [])])])) rfl q36
              obtain ⟨zs36, r36, hat36⟩ := q36
              subst r36
              obtain ⟨v37, e37, q37⟩ := hin 37 _ 110 rfl rfl ⟨{ on := 37, ground := .data }, by simp, rfl, rfl⟩
              have q37 := fact_get (P := isVal (Vl.mk 7 0 [(Vl.mk 4 0 [(Vl.mk 2 97 [])])])) rfl q37
              obtain ⟨zs37, r37, hat37⟩ := q37
              subst r37
              unfold Oper.wp execOp
              go_simp
              refine (good_eq (b := true) hat36 hat37 (by decide +kernel)).mono ?_
              rintro e wn ⟨rfl, hbn⟩
              exact hK _ _ (hB.trans (hbn.mono hB.size)) (KeepsC.of_below hbn) (fact_put (P := isEq (.bool true)) rfl rfl)
            refine AllG.cons (k' := 40) rfl ?_ ?_
            · intro a' w' hB hk hin KK hK
              obtain ⟨v38, e38, q38⟩ := hin 34 _ 107 rfl rfl ⟨{ on := 34, ground := .data }, by simp, rfl, rfl⟩
              have q38 := fact_get (P := isEq (.bool true)) rfl q38
              have q38' : v38 = .bool true := q38
              subst q38'
              obtain ⟨v39, e39, q39⟩ := hin 38 _ 111 rfl rfl ⟨{ on := 38, ground := .data }, by simp, rfl, rfl⟩
              have q39 := fact_get (P := isEq (.bool true)) rfl q39
              have q39' : v39 = .bool true := q39
              subst q39'
              unfold Oper.wp execOp
              go_simp
              exact hK _ _ hB (KeepsC.of_below (Below.refl _ _)) (fact_put (P := isEq (.bool true)) rfl rfl)
            refine AllG.cons (k' := 41) rfl ?_ ?_
            · intro a' w' hB hk hin KK hK
              obtain ⟨v40, e40, q40⟩ := hin 39 _ 112 rfl rfl ⟨{ on := 39, ground := .data }, by simp, rfl, rfl⟩
              have q40 := fact_get (P := isEq (.bool true)) rfl q40
              have q40' : v40 = .bool true := q40
              subst q40'
              unfold Oper.wp execOp
              go_simp
              exact hK _ _ hB (KeepsC.of_below (Below.refl _ _)) (fact_put (P := isEq (.bool true)) rfl rfl)
            refine AllG.cons (k' := 42) rfl ?_ ?_
            · intro a' w' hB hk hin KK hK
              refine wp_load_coreK _ rfl b8 0 _ (eval_tmp (by rw [hk 8 (by kernel_rfl)]; rfl)) (BX8.out _ hB).1 ?_
              exact hK _ _ hB (KeepsC.of_below (Below.refl _ _)) (fact_put (P := isCore (K.Cr.mk 4 0 0 [(K.Cr.mk 2 sA 0 []), (K.Cr.mk 1 0 0 [])])) rfl ⟨_, rfl, (BX8.out _ hB).2⟩)
            refine AllG.cons (k' := 43) rfl ?_ ?_
            · intro a' w' hB hk hin KK hK
              obtain ⟨v41, e41, q41⟩ := hin 41 _ 114 rfl rfl ⟨{ on := 41, ground := .data }, by simp, rfl, rfl⟩
              have q41 := fact_get (P := isCore (K.Cr.mk 4 0 0 [(K.Cr.mk 2 sA 0 []), (K.Cr.mk 1 0 0 [])])) rfl q41
              obtain ⟨zs41, r41, hat41⟩ := q41
              subst r41
              unfold Oper.wp execOp
              go_simp
              refine (K.anew_walk hat41).mono ?_
              rintro e wn ⟨zz, rfl, hat, hbn⟩
              exact hK _ _ (hB.trans (hbn.mono hB.size)) (KeepsC.of_below hbn) (fact_put (P := isCore (K.Cr.mk 7 0 0 [(K.Cr.mk 4 0 0 [(K.Cr.mk 2 sA 0 []), (K.Cr.mk 1 0 0 [])])])) rfl ⟨zz, rfl, hat⟩)
            refine AllG.cons (k' := 44) rfl ?_ ?_
            · intro a' w' hB hk hin KK hK
              refine wp_load_valK _ rfl b3 0 _ (eval_tmp (by rw [hk 3 (by kernel_rfl)]; rfl)) (BX3.out _ hB).1 ?_
              exact hK _ _ hB (KeepsC.of_below (Below.refl _ _)) (fact_put (P := isVal (Vl.mk 4 0 [(Vl.mk 2 97 [])])) rfl ⟨_, rfl, (BX3.out _ hB).2⟩)
            refine AllG.cons (k' := 45) rfl ?_ ?_
            · intro a' w' hB hk hin KK hK
              obtain ⟨v42, e42, q42⟩ := hin 42 _ 115 rfl rfl ⟨{ on := 42, ground := .data }, by simp, rfl, rfl⟩
              have q42 := fact_get (P := isCore (K.Cr.mk 7 0 0 [(K.Cr.mk 4 0 0 [(K.Cr.mk 2 sA 0 []), (K.Cr.mk 1 0 0 [])])])) rfl q42
              obtain ⟨zs42, r42, hat42⟩ := q42
              subst r42
              obtain ⟨v43, e43, q43⟩ := hin 43 _ 116 rfl rfl ⟨{ on := 43, ground := .data }, by simp, rfl, rfl⟩
              have q43 := fact_get (P := isVal (Vl.mk 4 0 [(Vl.mk 2 97 [])])) rfl q43
              obtain ⟨zs43, r43, hat43⟩ := q43
              subst r43
              unfold Oper.wp execOp
              go_simp
              refine (good_eq (b := true) hat42 hat43 (by decide +kernel)).mono ?_
              rintro e wn ⟨rfl, hbn⟩
              exact hK _ _ (hB.trans (hbn.mono hB.size)) (KeepsC.of_below hbn) (fact_put (P := isEq (.bool true)) rfl rfl)
            refine AllG.cons (k' := 46) rfl ?_ ?_
            · intro a' w' hB hk hin KK hK
              obtain ⟨v44, e44, q44⟩ := hin 40 _ 113 rfl rfl ⟨{ on := 40, ground := .data }, by simp, rfl, rfl⟩
              have q44 := fact_get (P := isEq (.bool true)) rfl q44
              have q44' : v44 = .bool true := q44
              subst q44'
              obtain ⟨v45, e45, q45⟩ := hin 44 _ 117 rfl rfl ⟨{ on := 44, ground := .data }, by simp, rfl, rfl⟩
              have q45 := fact_get (P := isEq (.bool true)) rfl q45
              have q45' : v45 = .bool true := q45
              subst q45'
              unfold Oper.wp execOp
              go_simp
              exact hK _ _ hB (KeepsC.of_below (Below.refl _ _)) (fact_put (P := isEq (.bool true)) rfl rfl)
            refine AllG.cons (k' := 47) rfl ?_ ?_
            · intro a' w' hB hk hin KK hK
              obtain ⟨v46, e46, q46⟩ := hin 45 _ 118 rfl rfl ⟨{ on := 45, ground := .data }, by simp, rfl, rfl⟩
              have q46 := fact_get (P := isEq (.bool true)) rfl q46
              have q46' : v46 = .bool true := q46
              subst q46'
              unfold Oper.wp execOp
              go_simp
              exact hK _ _ hB (KeepsC.of_below (Below.refl _ _)) (fact_put (P := isEq (.bool true)) rfl rfl)
            refine AllG.cons (k' := 48) rfl ?_ ?_
            · intro a' w' hB hk hin KK hK
              unfold Oper.wp execOp
              go_simp
              exact hK _ _ hB (KeepsC.of_below (Below.refl _ _)) (fact_put (P := isCore (K.Cr.mk 0 0 0 [])) rfl ⟨[_, _, _, _, _, _, _], rfl, at_zeroC w' 0 rfl⟩)
            refine AllG.cons (k' := 49) rfl ?_ ?_
            · intro a' w' hB hk hin KK hK
              refine wp_load_valK _ rfl w1.heap.size 0 _ (eval_tmp (by rw [hk 1 (by kernel_rfl)]; rfl)) (BX1.out _ hB).1 ?_
              exact hK _ _ hB (KeepsC.of_below (Below.refl _ _)) (fact_put (P := isVal (Vl.mk 1 0 [])) rfl ⟨_, rfl, (BX1.out _ hB).2⟩)
            refine AllG.cons (k' := 50) rfl ?_ ?_
            · intro a' w' hB hk hin KK hK
              obtain ⟨v47, e47, q47⟩ := hin 47 _ 120 rfl rfl ⟨{ on := 47, ground := .data }, by simp, rfl, rfl⟩
              have q47 := fact_get (P := isCore (K.Cr.mk 0 0 0 [])) rfl q47
              obtain ⟨zs47, r47, hat47⟩ := q47
              subst r47
              obtain ⟨v48, e48, q48⟩ := hin 48 _ 121 rfl rfl ⟨{ on := 48, ground := .data }, by simp, rfl, rfl⟩
              have q48 := fact_get (P := isVal (Vl.mk 1 0 [])) rfl q48
              obtain ⟨zs48, r48, hat48⟩ := q48
              subst r48
              unfold Oper.wp execOp
              go_simp
              refine (good_eq (b := false) hat47 hat48 (by decide +kernel)).mono ?_
              rintro e wn ⟨rfl, hbn⟩
              exact hK _ _ (hB.trans (hbn.mono hB.size)) (KeepsC.of_below hbn) (fact_put (P := isEq (.bool false)) rfl rfl)
            refine AllG.cons (k' := 51) rfl ?_ ?_
            · intro a' w' hB hk hin KK hK
              obtain ⟨v49, e49, q49⟩ := hin 49 _ 122 rfl rfl ⟨{ on := 49, ground := .data }, by simp, rfl, rfl⟩
              have q49 := fact_get (P := isEq (.bool false)) rfl q49
              have q49' : v49 = .bool false := q49
              subst q49'
              unfold Oper.wp execOp
              go_simp
              exact hK _ _ hB (KeepsC.of_below (Below.refl _ _)) (fact_put (P := isEq (.bool true)) rfl rfl)
            refine AllG.cons (k' := 52) rfl ?_ ?_
            · intro a' w' hB hk hin KK hK
              obtain ⟨v50, e50, q50⟩ := hin 46 _ 119 rfl rfl ⟨{ on := 46, ground := .data }, by simp, rfl, rfl⟩
              have q50 := fact_get (P := isEq (.bool true)) rfl q50
              have q50' : v50 = .bool true := q50
              subst q50'
              obtain ⟨v51, e51, q51⟩ := hin 50 _ 123 rfl rfl ⟨{ on := 50, ground := .data }, by simp, rfl, rfl⟩
              have q51 := fact_get (P := isEq (.bool true)) rfl q51
              have q51' : v51 = .bool true := q51
              subst q51'
              unfold Oper.wp execOp
              go_simp
              exact hK _ _ hB (KeepsC.of_below (Below.refl _ _)) (fact_put (P := isEq (.bool true)) rfl rfl)
            refine AllG.cons (k' := 53) rfl ?_ ?_
            · intro a' w' hB hk hin KK hK
              obtain ⟨v52, e52, q52⟩ := hin 51 _ 124 rfl rfl ⟨{ on := 51, ground := .data }, by simp, rfl, rfl⟩
              have q52 := fact_get (P := isEq (.bool true)) rfl q52
              have q52' : v52 = .bool true := q52
              subst q52'
              unfold Oper.wp execOp
              go_simp
              exact hK _ _ hB (KeepsC.of_below (Below.refl _ _)) (fact_put (P := isEq (.bool true)) rfl rfl)
            refine AllG.cons (k' := 54) rfl ?_ ?_
            · intro a' w' hB hk hin KK hK
              unfold Oper.wp execOp
              go_simp
              exact hK _ _ hB (KeepsC.of_below (Below.refl _ _)) (fact_put (P := isCore (K.Cr.mk 9 0 0 [])) rfl ⟨[_, _, _, _, _, _, _], rfl, at_zeroC w' 9 rfl⟩)
            refine AllG.cons (k' := 55) rfl ?_ ?_
            · intro a' w' hB hk hin KK hK
              refine wp_load_valK _ rfl w1.heap.size 0 _ (eval_tmp (by rw [hk 1 (by kernel_rfl)]; rfl)) (BX1.out _ hB).1 ?_
              exact hK _ _ hB (KeepsC.of_below (Below.refl _ _)) (fact_put (P := isVal (Vl.mk 1 0 [])) rfl ⟨_, rfl, (BX1.out _ hB).2⟩)
            refine AllG.cons (k' := 56) rfl ?_ ?_
            · intro a' w' hB hk hin KK hK
              obtain ⟨v53, e53, q53⟩ := hin 53 _ 126 rfl rfl ⟨{ on := 53, ground := .data }, by simp, rfl, rfl⟩
              have q53 := fact_get (P := isCore (K.Cr.mk 9 0 0 [])) rfl q53
              obtain ⟨zs53, r53, hat53⟩ := q53
              subst r53
              obtain ⟨v54, e54, q54⟩ := hin 54 _ 127 rfl rfl ⟨{ on := 54, ground := .data }, by simp, rfl, rfl⟩
              have q54 := fact_get (P := isVal (Vl.mk 1 0 [])) rfl q54
              obtain ⟨zs54, r54, hat54⟩ := q54
              subst r54
              unfold Oper.wp execOp
              go_simp
              refine (good_eq (b := false) hat53 hat54 (by decide +kernel)).mono ?_
              rintro e wn ⟨rfl, hbn⟩
              exact hK _ _ (hB.trans (hbn.mono hB.size)) (KeepsC.of_below hbn) (fact_put (P := isEq (.bool false)) rfl rfl)
            refine AllG.cons (k' := 57) rfl ?_ ?_
            · intro a' w' hB hk hin KK hK
              obtain ⟨v55, e55, q55⟩ := hin 55 _ 128 rfl rfl ⟨{ on := 55, ground := .data }, by simp, rfl, rfl⟩
              have q55 := fact_get (P := isEq (.bool false)) rfl q55
              have q55' : v55 = .bool false := q55
              subst q55'
              unfold Oper.wp execOp
              go_simp
              exact hK _ _ hB (KeepsC.of_below (Below.refl _ _)) (fact_put (P := isEq (.bool true)) rfl rfl)
            refine AllG.cons (k' := 58) rfl ?_ ?_
            · intro a' w' hB hk hin KK hK
              obtain ⟨v56, e56, q56⟩ := hin 52 _ 125 rfl rfl ⟨{ on := 52, ground := .data }, by simp, rfl, rfl⟩
              have q56 := fact_get (P := isEq (.bool true)) rfl q56
              have q56' : v56 = .bool true := q56
              subst q56'
              obtain ⟨v57, e57, q57⟩ := hin 56 _ 129 rfl rfl ⟨{ on := 56, ground := .data }, by simp, rfl, rfl⟩
              have q57 := fact_get (P := isEq (.bool true)) rfl q57
              have q57' : v57 = .bool true := q57
              subst q57'
              unfold Oper.wp execOp
              go_simp
              exact hK _ _ hB (KeepsC.of_below (Below.refl _ _)) (fact_put (P := isEq (.bool true)) rfl rfl)
            refine AllG.cons (k' := 59) rfl ?_ ?_
            · intro a' w' hB hk hin KK hK
              obtain ⟨v58, e58, q58⟩ := hin 57 _ 130 rfl rfl ⟨{ on := 57, ground := .data }, by simp, rfl, rfl⟩
              have q58 := fact_get (P := isEq (.bool true)) rfl q58
              have q58' : v58 = .bool true := q58
              subst q58'
              unfold Oper.wp execOp
              go_simp
              exact hK _ _ hB (KeepsC.of_below (Below.refl _ _)) (fact_put (P := isEq (.bool true)) rfl rfl)
            refine AllG.cons (k' := 60) rfl ?_ ?_
            · intro a' w' hB hk hin KK hK
              refine wp_load_valK _ rfl (W5.heap.size + 1 + 1 + 1 + 1 + 1) 0 _ (eval_tmp (by rw [hk 7 (by kernel_rfl)]; rfl)) (BX7.out _ hB).1 ?_
              exact hK _ _ hB (KeepsC.of_below (Below.refl _ _)) (fact_put (P := isVal (Vl.mk 7 0 [(Vl.mk 4 0 [(Vl.mk 2 97 [])])])) rfl ⟨_, rfl, (BX7.out _ hB).2⟩)
            refine AllG.cons (k' := 61) rfl ?_ ?_
            · intro a' w' hB hk hin KK hK
              obtain ⟨v59, e59, q59⟩ := hin 59 _ 132 rfl rfl ⟨{ on := 59, ground := .data }, by simp, rfl, rfl⟩
              have q59 := fact_get (P := isVal (Vl.mk 7 0 [(Vl.mk 4 0 [(Vl.mk 2 97 [])])])) rfl q59
              obtain ⟨zs59, r59, hat59⟩ := q59
              subst r59
              unfold Oper.wp execOp
              go_simp
              refine (text_eq (l := [60, 76, 54, 49, 62]) hat59 (by decide +kernel)).mono ?_
              rintro e wn ⟨⟨t, rfl, ht⟩, hbn⟩
              exact hK _ _ (hB.trans (hbn.mono hB.size)) (KeepsC.of_below hbn) (fact_put (P := isText [60, 76, 54, 49, 62]) rfl ⟨t, rfl, ht⟩)
            refine AllG.cons (k' := 62) rfl ?_ ?_
            · intro a' w' hB hk hin KK hK
              obtain ⟨v60, e60, q60⟩ := hin 60 _ 133 rfl rfl ⟨{ on := 60, ground := .data }, by simp, rfl, rfl⟩
              have q60 := fact_get (P := isText [60, 76, 54, 49, 62]) rfl q60
              obtain ⟨t60, r60, ht60⟩ := q60
              obtain rfl : t60 = ⟨#[60, 76, 54, 49, 62]⟩ := of_nats ht60
              subst r60
              unfold Oper.wp execOp
              go_simp
              exact hK _ _ hB (KeepsC.of_below (Below.refl _ _)) (fact_put (P := isEq (.bool true)) rfl rfl)
            refine AllG.cons (k' := 63) rfl ?_ ?_
            · intro a' w' hB hk hin KK hK
              obtain ⟨v61, e61, q61⟩ := hin 58 _ 131 rfl rfl ⟨{ on := 58, ground := .data }, by simp, rfl, rfl⟩
              have q61 := fact_get (P := isEq (.bool true)) rfl q61
              have q61' : v61 = .bool true := q61
              subst q61'
              obtain ⟨v62, e62, q62⟩ := hin 61 _ 134 rfl rfl ⟨{ on := 61, ground := .data }, by simp, rfl, rfl⟩
              have q62 := fact_get (P := isEq (.bool true)) rfl q62
              have q62' : v62 = .bool true := q62
              subst q62'
              unfold Oper.wp execOp
              go_simp
              exact hK _ _ hB (KeepsC.of_below (Below.refl _ _)) (fact_put (P := isEq (.bool true)) rfl rfl)
            refine AllG.cons (k' := 64) rfl ?_ ?_
            · intro a' w' hB hk hin KK hK
              obtain ⟨v63, e63, q63⟩ := hin 62 _ 135 rfl rfl ⟨{ on := 62, ground := .data }, by simp, rfl, rfl⟩
              have q63 := fact_get (P := isEq (.bool true)) rfl q63
              have q63' : v63 = .bool true := q63
              subst q63'
              unfold Oper.wp execOp
              go_simp
              exact hK _ _ hB (KeepsC.of_below (Below.refl _ _)) (fact_put (P := isEq (.bool true)) rfl rfl)
            refine AllG.cons (k' := 65) rfl ?_ ?_
            · intro a' w' hB hk hin KK hK
              refine wp_load_valK _ rfl b4 0 _ (eval_tmp (by rw [hk 4 (by kernel_rfl)]; rfl)) (BX4.out _ hB).1 ?_
              exact hK _ _ hB (KeepsC.of_below (Below.refl _ _)) (fact_put (P := isVal (Vl.mk 5 0 [(Vl.mk 1 0 [])])) rfl ⟨_, rfl, (BX4.out _ hB).2⟩)
            refine AllG.cons (k' := 66) rfl ?_ ?_
            · intro a' w' hB hk hin KK hK
              obtain ⟨v64, e64, q64⟩ := hin 64 _ 137 rfl rfl ⟨{ on := 64, ground := .data }, by simp, rfl, rfl⟩
              have q64 := fact_get (P := isVal (Vl.mk 5 0 [(Vl.mk 1 0 [])])) rfl q64
              obtain ⟨zs64, r64, hat64⟩ := q64
              subst r64
              unfold Oper.wp execOp
              go_simp
              refine (text_eq (l := [82, 69]) hat64 (by decide +kernel)).mono ?_
              rintro e wn ⟨⟨t, rfl, ht⟩, hbn⟩
              exact hK _ _ (hB.trans (hbn.mono hB.size)) (KeepsC.of_below hbn) (fact_put (P := isText [82, 69]) rfl ⟨t, rfl, ht⟩)
            refine AllG.cons (k' := 67) rfl ?_ ?_
            · intro a' w' hB hk hin KK hK
              obtain ⟨v65, e65, q65⟩ := hin 65 _ 138 rfl rfl ⟨{ on := 65, ground := .data }, by simp, rfl, rfl⟩
              have q65 := fact_get (P := isText [82, 69]) rfl q65
              obtain ⟨t65, r65, ht65⟩ := q65
              obtain rfl : t65 = ⟨#[82, 69]⟩ := of_nats ht65
              subst r65
              unfold Oper.wp execOp
              go_simp
              exact hK _ _ hB (KeepsC.of_below (Below.refl _ _)) (fact_put (P := isEq (.bool true)) rfl rfl)
            refine AllG.cons (k' := 68) rfl ?_ ?_
            · intro a' w' hB hk hin KK hK
              obtain ⟨v66, e66, q66⟩ := hin 63 _ 136 rfl rfl ⟨{ on := 63, ground := .data }, by simp, rfl, rfl⟩
              have q66 := fact_get (P := isEq (.bool true)) rfl q66
              have q66' : v66 = .bool true := q66
              subst q66'
              obtain ⟨v67, e67, q67⟩ := hin 66 _ 139 rfl rfl ⟨{ on := 66, ground := .data }, by simp, rfl, rfl⟩
              have q67 := fact_get (P := isEq (.bool true)) rfl q67
              have q67' : v67 = .bool true := q67
              subst q67'
              unfold Oper.wp execOp
              go_simp
              exact hK _ _ hB (KeepsC.of_below (Below.refl _ _)) (fact_put (P := isEq (.bool true)) rfl rfl)
            refine AllG.cons (k' := 69) rfl ?_ ?_
            · intro a' w' hB hk hin KK hK
              obtain ⟨v68, e68, q68⟩ := hin 67 _ 140 rfl rfl ⟨{ on := 67, ground := .data }, by simp, rfl, rfl⟩
              have q68 := fact_get (P := isEq (.bool true)) rfl q68
              have q68' : v68 = .bool true := q68
              subst q68'
              unfold Oper.wp execOp
              go_simp
              exact hK _ _ hB (KeepsC.of_below (Below.refl _ _)) (fact_put (P := isEq (.bool true)) rfl rfl)
            refine AllG.cons (k' := 70) rfl ?_ ?_
            · intro a' w' hB hk hin KK hK
              refine wp_load_valK _ rfl (W5.heap.size + 1) 0 _ (eval_tmp (by rw [hk 5 (by kernel_rfl)]; rfl)) (BX5.out _ hB).1 ?_
              exact hK _ _ hB (KeepsC.of_below (Below.refl _ _)) (fact_put (P := isVal (Vl.mk 6 0 [(Vl.mk 2 97 []), (Vl.mk 2 97 [])])) rfl ⟨_, rfl, (BX5.out _ hB).2⟩)
            refine AllG.cons (k' := 71) rfl ?_ ?_
            · intro a' w' hB hk hin KK hK
              obtain ⟨v69, e69, q69⟩ := hin 69 _ 142 rfl rfl ⟨{ on := 69, ground := .data }, by simp, rfl, rfl⟩
              have q69 := fact_get (P := isVal (Vl.mk 6 0 [(Vl.mk 2 97 []), (Vl.mk 2 97 [])])) rfl q69
              obtain ⟨zs69, r69, hat69⟩ := q69
              subst r69
              unfold Oper.wp execOp
              go_simp
              refine (text_eq (l := [91, 54, 49, 44, 54, 49, 93]) hat69 (by decide +kernel)).mono ?_
              rintro e wn ⟨⟨t, rfl, ht⟩, hbn⟩
              exact hK _ _ (hB.trans (hbn.mono hB.size)) (KeepsC.of_below hbn) (fact_put (P := isText [91, 54, 49, 44, 54, 49, 93]) rfl ⟨t, rfl, ht⟩)
            refine AllG.cons (k' := 72) rfl ?_ ?_
            · intro a' w' hB hk hin KK hK
              obtain ⟨v70, e70, q70⟩ := hin 70 _ 143 rfl rfl ⟨{ on := 70, ground := .data }, by simp, rfl, rfl⟩
              have q70 := fact_get (P := isText [91, 54, 49, 44, 54, 49, 93]) rfl q70
              obtain ⟨t70, r70, ht70⟩ := q70
              obtain rfl : t70 = ⟨#[91, 54, 49, 44, 54, 49, 93]⟩ := of_nats ht70
              subst r70
              unfold Oper.wp execOp
              go_simp
              exact hK _ _ hB (KeepsC.of_below (Below.refl _ _)) (fact_put (P := isEq (.bool true)) rfl rfl)
            refine AllG.cons (k' := 73) rfl ?_ ?_
            · intro a' w' hB hk hin KK hK
              obtain ⟨v71, e71, q71⟩ := hin 68 _ 141 rfl rfl ⟨{ on := 68, ground := .data }, by simp, rfl, rfl⟩
              have q71 := fact_get (P := isEq (.bool true)) rfl q71
              have q71' : v71 = .bool true := q71
              subst q71'
              obtain ⟨v72, e72, q72⟩ := hin 71 _ 144 rfl rfl ⟨{ on := 71, ground := .data }, by simp, rfl, rfl⟩
              have q72 := fact_get (P := isEq (.bool true)) rfl q72
              have q72' : v72 = .bool true := q72
              subst q72'
              unfold Oper.wp execOp
              go_simp
              exact hK _ _ hB (KeepsC.of_below (Below.refl _ _)) (fact_put (P := isEq (.bool true)) rfl rfl)
            refine AllG.cons (k' := 74) rfl ?_ ?_
            · intro a' w' hB hk hin KK hK
              obtain ⟨v73, e73, q73⟩ := hin 72 _ 145 rfl rfl ⟨{ on := 72, ground := .data }, by simp, rfl, rfl⟩
              have q73 := fact_get (P := isEq (.bool true)) rfl q73
              have q73' : v73 = .bool true := q73
              subst q73'
              unfold Oper.wp execOp
              go_simp
              exact hK _ _ hB (KeepsC.of_below (Below.refl _ _)) (fact_put (P := isEq (.bool true)) rfl rfl)
            refine AllG.cons (k' := 75) rfl ?_ ?_
            · intro a' w' hB hk hin KK hK
              unfold Oper.wp execOp
              go_simp
              exact hK _ _ hB (KeepsC.of_below (Below.refl _ _)) (fact_put (P := isVal (Vl.mk 0 0 [])) rfl ⟨[_, _, _], rfl, at_plain rfl (by decide)⟩)
            refine AllG.cons (k' := 76) rfl ?_ ?_
            · intro a' w' hB hk hin KK hK
              obtain ⟨v74, e74, q74⟩ := hin 74 _ 147 rfl rfl ⟨{ on := 74, ground := .data }, by simp, rfl, rfl⟩
              have q74 := fact_get (P := isVal (Vl.mk 0 0 [])) rfl q74
              obtain ⟨zs74, r74, hat74⟩ := q74
              subst r74
              unfold Oper.wp execOp
              go_simp
              refine (text_eq (l := [63]) hat74 (by decide +kernel)).mono ?_
              rintro e wn ⟨⟨t, rfl, ht⟩, hbn⟩
              exact hK _ _ (hB.trans (hbn.mono hB.size)) (KeepsC.of_below hbn) (fact_put (P := isText [63]) rfl ⟨t, rfl, ht⟩)
            refine AllG.cons (k' := 77) rfl ?_ ?_
            · intro a' w' hB hk hin KK hK
              obtain ⟨v75, e75, q75⟩ := hin 75 _ 148 rfl rfl ⟨{ on := 75, ground := .data }, by simp, rfl, rfl⟩
              have q75 := fact_get (P := isText [63]) rfl q75
              obtain ⟨t75, r75, ht75⟩ := q75
              obtain rfl : t75 = ⟨#[63]⟩ := of_nats ht75
              subst r75
              unfold Oper.wp execOp
              go_simp
              exact hK _ _ hB (KeepsC.of_below (Below.refl _ _)) (fact_put (P := isEq (.bool true)) rfl rfl)
            refine AllG.cons (k' := 78) rfl ?_ ?_
            · intro a' w' hB hk hin KK hK
              obtain ⟨v76, e76, q76⟩ := hin 73 _ 146 rfl rfl ⟨{ on := 73, ground := .data }, by simp, rfl, rfl⟩
              have q76 := fact_get (P := isEq (.bool true)) rfl q76
              have q76' : v76 = .bool true := q76
              subst q76'
              obtain ⟨v77, e77, q77⟩ := hin 76 _ 149 rfl rfl ⟨{ on := 76, ground := .data }, by simp, rfl, rfl⟩
              have q77 := fact_get (P := isEq (.bool true)) rfl q77
              have q77' : v77 = .bool true := q77
              subst q77'
              unfold Oper.wp execOp
              go_simp
              exact hK _ _ hB (KeepsC.of_below (Below.refl _ _)) (fact_put (P := isEq (.bool true)) rfl rfl)
            refine AllG.cons (k' := 79) rfl ?_ ?_
            · intro a' w' hB hk hin KK hK
              obtain ⟨v78, e78, q78⟩ := hin 77 _ 150 rfl rfl ⟨{ on := 77, ground := .data }, by simp, rfl, rfl⟩
              have q78 := fact_get (P := isEq (.bool true)) rfl q78
              have q78' : v78 = .bool true := q78
              subst q78'
              unfold Oper.wp execOp
              go_simp
              exact hK _ _ hB (KeepsC.of_below (Below.refl _ _)) (fact_put (P := isEq (.bool true)) rfl rfl)
            refine AllG.cons (k' := 80) rfl ?_ ?_
            · intro a' w' hB hk hin KK hK
              refine wp_load_valK _ rfl (w1.heap.size + 1) 0 _ (eval_tmp (by rw [hk 2 (by kernel_rfl)]; rfl)) (BX2.out _ hB).1 ?_
              exact hK _ _ hB (KeepsC.of_below (Below.refl _ _)) (fact_put (P := isVal (Vl.mk 2 97 [])) rfl ⟨_, rfl, (BX2.out _ hB).2⟩)
            refine AllG.cons (k' := 81) rfl ?_ ?_
            · intro a' w' hB hk hin KK hK
              obtain ⟨v79, e79, q79⟩ := hin 79 _ 152 rfl rfl ⟨{ on := 79, ground := .data }, by simp, rfl, rfl⟩
              have q79 := fact_get (P := isVal (Vl.mk 2 97 [])) rfl q79
              obtain ⟨zs79, r79, hat79⟩ := q79
              subst r79
              have ha79 := at_lit hat79
              obtain ⟨k79, z79, a79, len79, cap79, rfl⟩ := ha79
              have hv := fun cs hc => vals_lit w' [((Vl.mk 2 97 []), [.int .i64 k79, .int .u8 z79, .slice a79 len79 cap79])] (by intro p hp; simp only [List.mem_cons, List.not_mem_nil, or_false] at hp; rcases hp with rfl <;> assumption) cs hc (by show 1 ≤ maxLen; decide)
              unfold Oper.wp execOp
              go_simp
              exact hK _ _ (hB.alloc hB.size _) (KeepsC.of_below ((Below.refl _ _).alloc (Nat.le_refl _) _)) (fact_put (P := isVals [(Vl.mk 2 97 [])]) rfl (hv _ rfl))
            refine AllG.cons (k' := 82) rfl ?_ ?_
            · intro a' w' hB hk hin KK hK
              obtain ⟨v80, e80, q80⟩ := hin 80 _ 153 rfl rfl ⟨{ on := 80, ground := .data }, by simp, rfl, rfl⟩
              have q80 := fact_get (P := isVals [(Vl.mk 2 97 [])]) rfl q80
              have hl80 := q80
              obtain ⟨a80, cap80, r80, _⟩ := q80
              subst r80
              unfold Oper.wp execOp
              go_simp
              exact hK _ _ hB (KeepsC.of_below (Below.refl _ _)) (fact_put (P := isVal (Vl.mk 3 0 [(Vl.mk 2 97 [])])) rfl ⟨[_, _, _], rfl, at_of_list hl80 rfl (by decide)⟩)
            refine AllG.cons (k' := 83) rfl ?_ ?_
            · intro a' w' hB hk hin KK hK
              obtain ⟨v81, e81, q81⟩ := hin 81 _ 154 rfl rfl ⟨{ on := 81, ground := .data }, by simp, rfl, rfl⟩
              have q81 := fact_get (P := isVal (Vl.mk 3 0 [(Vl.mk 2 97 [])])) rfl q81
              obtain ⟨zs81, r81, hat81⟩ := q81
              subst r81
              unfold Oper.wp execOp
              go_simp
              refine (text_eq (l := [40, 54, 49, 44, 41]) hat81 (by decide +kernel)).mono ?_
              rintro e wn ⟨⟨t, rfl, ht⟩, hbn⟩
              exact hK _ _ (hB.trans (hbn.mono hB.size)) (KeepsC.of_below hbn) (fact_put (P := isText [40, 54, 49, 44, 41]) rfl ⟨t, rfl, ht⟩)
            refine AllG.cons (k' := 84) rfl ?_ ?_
            · intro a' w' hB hk hin KK hK
              obtain ⟨v82, e82, q82⟩ := hin 82 _ 155 rfl rfl ⟨{ on := 82, ground := .data }, by simp, rfl, rfl⟩
              have q82 := fact_get (P := isText [40, 54, 49, 44, 41]) rfl q82
              obtain ⟨t82, r82, ht82⟩ := q82
              obtain rfl : t82 = ⟨#[40, 54, 49, 44, 41]⟩ := of_nats ht82
              subst r82
              unfold Oper.wp execOp
              go_simp
              exact hK _ _ hB (KeepsC.of_below (Below.refl _ _)) (fact_put (P := isEq (.bool true)) rfl rfl)
            refine AllG.cons (k' := 85) rfl ?_ ?_
            · intro a' w' hB hk hin KK hK
              obtain ⟨v83, e83, q83⟩ := hin 78 _ 151 rfl rfl ⟨{ on := 78, ground := .data }, by simp, rfl, rfl⟩
              have q83 := fact_get (P := isEq (.bool true)) rfl q83
              have q83' : v83 = .bool true := q83
              subst q83'
              obtain ⟨v84, e84, q84⟩ := hin 83 _ 156 rfl rfl ⟨{ on := 83, ground := .data }, by simp, rfl, rfl⟩
              have q84 := fact_get (P := isEq (.bool true)) rfl q84
              have q84' : v84 = .bool true := q84
              subst q84'
              unfold Oper.wp execOp
              go_simp
              exact hK _ _ hB (KeepsC.of_below (Below.refl _ _)) (fact_put (P := isEq (.bool true)) rfl rfl)
            refine AllG.cons (k' := 86) rfl ?_ ?_
            · intro a' w' hB hk hin KK hK
              obtain ⟨v85, e85, q85⟩ := hin 84 _ 157 rfl rfl ⟨{ on := 84, ground := .data }, by simp, rfl, rfl⟩
              have q85 := fact_get (P := isEq (.bool true)) rfl q85
              have q85' : v85 = .bool true := q85
              subst q85'
              unfold Oper.wp execOp
              go_simp
              exact hK _ _ hB (KeepsC.of_below (Below.refl _ _)) (fact_put (P := isEq (.bool true)) rfl rfl)
            refine AllG.cons (k' := 87) rfl ?_ ?_
            · intro a' w' hB hk hin KK hK
              unfold Oper.wp execOp
              go_simp
              exact hK _ _ hB (KeepsC.of_below (Below.refl _ _)) (fact_put (P := isVal (Vl.mk 3 0 [])) rfl ⟨[_, _, _], rfl, at_plain rfl (by decide)⟩)
            refine AllG.cons (k' := 88) rfl ?_ ?_
            · intro a' w' hB hk hin KK hK
              obtain ⟨v86, e86, q86⟩ := hin 86 _ 159 rfl rfl ⟨{ on := 86, ground := .data }, by simp, rfl, rfl⟩
              have q86 := fact_get (P := isVal (Vl.mk 3 0 [])) rfl q86
              obtain ⟨zs86, r86, hat86⟩ := q86
              subst r86
              unfold Oper.wp execOp
              go_simp
              refine (text_eq (l := [40, 44, 41]) hat86 (by decide +kernel)).mono ?_
              rintro e wn ⟨⟨t, rfl, ht⟩, hbn⟩
              exact hK _ _ (hB.trans (hbn.mono hB.size)) (KeepsC.of_below hbn) (fact_put (P := isText [40, 44, 41]) rfl ⟨t, rfl, ht⟩)
            refine AllG.cons (k' := 89) rfl ?_ ?_
            · intro a' w' hB hk hin KK hK
              obtain ⟨v87, e87, q87⟩ := hin 87 _ 160 rfl rfl ⟨{ on := 87, ground := .data }, by simp, rfl, rfl⟩
              have q87 := fact_get (P := isText [40, 44, 41]) rfl q87
              obtain ⟨t87, r87, ht87⟩ := q87
              obtain rfl : t87 = ⟨#[40, 44, 41]⟩ := of_nats ht87
              subst r87
              unfold Oper.wp execOp
              go_simp
              exact hK _ _ hB (KeepsC.of_below (Below.refl _ _)) (fact_put (P := isEq (.bool true)) rfl rfl)
            refine AllG.cons (k' := 90) rfl ?_ ?_
            · intro a' w' hB hk hin KK hK
              obtain ⟨v88, e88, q88⟩ := hin 85 _ 158 rfl rfl ⟨{ on := 85, ground := .data }, by simp, rfl, rfl⟩
              have q88 := fact_get (P := isEq (.bool true)) rfl q88
              have q88' : v88 = .bool true := q88
              subst q88'
              obtain ⟨v89, e89, q89⟩ := hin 88 _ 161 rfl rfl ⟨{ on := 88, ground := .data }, by simp, rfl, rfl⟩
              have q89 := fact_get (P := isEq (.bool true)) rfl q89
              have q89' : v89 = .bool true := q89
              subst q89'
              unfold Oper.wp execOp
              go_simp
              exact hK _ _ hB (KeepsC.of_below (Below.refl _ _)) (fact_put (P := isEq (.bool true)) rfl rfl)
            refine AllG.cons (k' := 91) rfl ?_ ?_
            · intro a' w' hB hk hin KK hK
              obtain ⟨v90, e90, q90⟩ := hin 89 _ 162 rfl rfl ⟨{ on := 89, ground := .data }, by simp, rfl, rfl⟩
              have q90 := fact_get (P := isEq (.bool true)) rfl q90
              have q90' : v90 = .bool true := q90
              subst q90'
              unfold Oper.wp execOp
              go_simp
              exact hK _ _ hB (KeepsC.of_below (Below.refl _ _)) (fact_put (P := isEq (.bool true)) rfl rfl)
            refine AllG.cons (k' := 92) rfl ?_ ?_
            · intro a' w' hB hk hin KK hK
              unfold Oper.wp execOp
              go_simp
              exact hK _ _ hB (KeepsC.of_below (Below.refl _ _)) (fact_put (P := isVal (Vl.mk 7 0 [])) rfl ⟨[_, _, _], rfl, at_plain rfl (by decide)⟩)
            refine AllG.cons (k' := 93) rfl ?_ ?_
            · intro a' w' hB hk hin KK hK
              obtain ⟨v91, e91, q91⟩ := hin 91 _ 164 rfl rfl ⟨{ on := 91, ground := .data }, by simp, rfl, rfl⟩
              have q91 := fact_get (P := isVal (Vl.mk 7 0 [])) rfl q91
              obtain ⟨zs91, r91, hat91⟩ := q91
              subst r91
              unfold Oper.wp execOp
              go_simp
              refine (text_eq (l := [60, 62]) hat91 (by decide +kernel)).mono ?_
              rintro e wn ⟨⟨t, rfl, ht⟩, hbn⟩
              exact hK _ _ (hB.trans (hbn.mono hB.size)) (KeepsC.of_below hbn) (fact_put (P := isText [60, 62]) rfl ⟨t, rfl, ht⟩)
            refine AllG.cons (k' := 94) rfl ?_ ?_
            · intro a' w' hB hk hin KK hK
              obtain ⟨v92, e92, q92⟩ := hin 92 _ 165 rfl rfl ⟨{ on := 92, ground := .data }, by simp, rfl, rfl⟩
              have q92 := fact_get (P := isText [60, 62]) rfl q92
              obtain ⟨t92, r92, ht92⟩ := q92
              obtain rfl : t92 = ⟨#[60, 62]⟩ := of_nats ht92
              subst r92
              unfold Oper.wp execOp
              go_simp
              exact hK _ _ hB (KeepsC.of_below (Below.refl _ _)) (fact_put (P := isEq (.bool true)) rfl rfl)
            refine AllG.cons (k' := 95) rfl ?_ ?_
            · intro a' w' hB hk hin KK hK
              obtain ⟨v93, e93, q93⟩ := hin 90 _ 163 rfl rfl ⟨{ on := 90, ground := .data }, by simp, rfl, rfl⟩
              have q93 := fact_get (P := isEq (.bool true)) rfl q93
              have q93' : v93 = .bool true := q93
              subst q93'
              obtain ⟨v94, e94, q94⟩ := hin 93 _ 166 rfl rfl ⟨{ on := 93, ground := .data }, by simp, rfl, rfl⟩
              have q94 := fact_get (P := isEq (.bool true)) rfl q94
              have q94' : v94 = .bool true := q94
              subst q94'
              unfold Oper.wp execOp
              go_simp
              exact hK _ _ hB (KeepsC.of_below (Below.refl _ _)) (fact_put (P := isEq (.bool true)) rfl rfl)
            refine AllG.cons (k' := 96) rfl ?_ ?_
            · intro a' w' hB hk hin KK hK
              obtain ⟨v95, e95, q95⟩ := hin 94 _ 167 rfl rfl ⟨{ on := 94, ground := .data }, by simp, rfl, rfl⟩
              have q95 := fact_get (P := isEq (.bool true)) rfl q95
              have q95' : v95 = .bool true := q95
              subst q95'
              unfold Oper.wp execOp
              go_simp
              exact hK _ _ hB (KeepsC.of_below (Below.refl _ _)) (fact_put (P := isEq (.bool true)) rfl rfl)
            refine AllG.cons (k' := 97) rfl ?_ ?_
            · intro a' w' hB hk hin KK hK
              refine wp_load_valK _ rfl (W5.heap.size + 1) 0 _ (eval_tmp (by rw [hk 5 (by kernel_rfl)]; rfl)) (BX5.out _ hB).1 ?_
              exact hK _ _ hB (KeepsC.of_below (Below.refl _ _)) (fact_put (P := isVal (Vl.mk 6 0 [(Vl.mk 2 97 []), (Vl.mk 2 97 [])])) rfl ⟨_, rfl, (BX5.out _ hB).2⟩)
            refine AllG.cons (k' := 98) rfl ?_ ?_
            · intro a' w' hB hk hin KK hK
              obtain ⟨v96, e96, q96⟩ := hin 96 _ 169 rfl rfl ⟨{ on := 96, ground := .data }, by simp, rfl, rfl⟩
              have q96 := fact_get (P := isVal (Vl.mk 6 0 [(Vl.mk 2 97 []), (Vl.mk 2 97 [])])) rfl q96
              obtain ⟨zs96, r96, hat96⟩ := q96
              subst r96
              unfold Oper.wp execOp
              go_simp
              refine (len_eq (n := 2) hat96 (by decide +kernel)).mono ?_
              rintro e wn ⟨rfl, hbn⟩
              exact hK _ _ (hB.trans (hbn.mono hB.size)) (KeepsC.of_below hbn) (fact_put (P := isEq (.int .i64 2)) rfl rfl)
            refine AllG.cons (k' := 99) rfl ?_ ?_
            · intro a' w' hB hk hin KK hK
              obtain ⟨v97, e97, q97⟩ := hin 97 _ 170 rfl rfl ⟨{ on := 97, ground := .data }, by simp, rfl, rfl⟩
              have q97 := fact_get (P := isEq (.int .i64 2)) rfl q97
              have q97' : v97 = .int .i64 2 := q97
              subst q97'
              unfold Oper.wp execOp
              go_simp
              exact hK _ _ hB (KeepsC.of_below (Below.refl _ _)) (fact_put (P := isEq (.bool true)) rfl rfl)
            refine AllG.cons (k' := 100) rfl ?_ ?_
            · intro a' w' hB hk hin KK hK
              obtain ⟨v98, e98, q98⟩ := hin 95 _ 168 rfl rfl ⟨{ on := 95, ground := .data }, by simp, rfl, rfl⟩
              have q98 := fact_get (P := isEq (.bool true)) rfl q98
              have q98' : v98 = .bool true := q98
              subst q98'
              obtain ⟨v99, e99, q99⟩ := hin 98 _ 171 rfl rfl ⟨{ on := 98, ground := .data }, by simp, rfl, rfl⟩
              have q99 := fact_get (P := isEq (.bool true)) rfl q99
              have q99' : v99 = .bool true := q99
              subst q99'
              unfold Oper.wp execOp
              go_simp
              exact hK _ _ hB (KeepsC.of_below (Below.refl _ _)) (fact_put (P := isEq (.bool true)) rfl rfl)
            refine AllG.cons (k' := 101) rfl ?_ ?_
            · intro a' w' hB hk hin KK hK
              obtain ⟨v100, e100, q100⟩ := hin 99 _ 172 rfl rfl ⟨{ on := 99, ground := .data }, by simp, rfl, rfl⟩
              have q100 := fact_get (P := isEq (.bool true)) rfl q100
              have q100' : v100 = .bool true := q100
              subst q100'
              unfold Oper.wp execOp
              go_simp
              exact hK _ _ hB (KeepsC.of_below (Below.refl _ _)) (fact_put (P := isEq (.bool true)) rfl rfl)
            refine AllG.cons (k' := 102) rfl ?_ ?_
            · intro a' w' hB hk hin KK hK
              refine wp_load_valK _ rfl (w1.heap.size + 1) 0 _ (eval_tmp (by rw [hk 2 (by kernel_rfl)]; rfl)) (BX2.out _ hB).1 ?_
              exact hK _ _ hB (KeepsC.of_below (Below.refl _ _)) (fact_put (P := isVal (Vl.mk 2 97 [])) rfl ⟨_, rfl, (BX2.out _ hB).2⟩)
            refine AllG.cons (k' := 103) rfl ?_ ?_
            · intro a' w' hB hk hin KK hK
              obtain ⟨v101, e101, q101⟩ := hin 101 _ 174 rfl rfl ⟨{ on := 101, ground := .data }, by simp, rfl, rfl⟩
              have q101 := fact_get (P := isVal (Vl.mk 2 97 [])) rfl q101
              obtain ⟨zs101, r101, hat101⟩ := q101
              subst r101
              have ha101 := at_lit hat101
              obtain ⟨k101, z101, a101, len101, cap101, rfl⟩ := ha101
              have hv := fun cs hc => vals_lit w' [((Vl.mk 2 97 []), [.int .i64 k101, .int .u8 z101, .slice a101 len101 cap101])] (by intro p hp; simp only [List.mem_cons, List.not_mem_nil, or_false] at hp; rcases hp with rfl <;> assumption) cs hc (by show 1 ≤ maxLen; decide)
              unfold Oper.wp execOp
              go_simp
              exact hK _ _ (hB.alloc hB.size _) (KeepsC.of_below ((Below.refl _ _).alloc (Nat.le_refl _) _)) (fact_put (P := isVals [(Vl.mk 2 97 [])]) rfl (hv _ rfl))
            refine AllG.cons (k' := 104) rfl ?_ ?_
            · intro a' w' hB hk hin KK hK
              obtain ⟨v102, e102, q102⟩ := hin 102 _ 175 rfl rfl ⟨{ on := 102, ground := .data }, by simp, rfl, rfl⟩
              have q102 := fact_get (P := isVals [(Vl.mk 2 97 [])]) rfl q102
              have hl102 := q102
              obtain ⟨a102, cap102, r102, _⟩ := q102
              subst r102
              unfold Oper.wp execOp
              go_simp
              exact hK _ _ hB (KeepsC.of_below (Below.refl _ _)) (fact_put (P := isVal (Vl.mk 9 0 [(Vl.mk 2 97 [])])) rfl ⟨[_, _, _], rfl, at_of_list hl102 rfl (by decide)⟩)
            refine AllG.cons (k' := 105) rfl ?_ ?_
            · intro a' w' hB hk hin KK hK
              obtain ⟨v103, e103, q103⟩ := hin 103 _ 176 rfl rfl ⟨{ on := 103, ground := .data }, by simp, rfl, rfl⟩
              have q103 := fact_get (P := isVal (Vl.mk 9 0 [(Vl.mk 2 97 [])])) rfl q103
              obtain ⟨zs103, r103, hat103⟩ := q103
              subst r103
              unfold Oper.wp execOp
              go_simp
              refine (len_eq (n := 0) hat103 (by decide +kernel)).mono ?_
              rintro e wn ⟨rfl, hbn⟩
              exact hK _ _ (hB.trans (hbn.mono hB.size)) (KeepsC.of_below hbn) (fact_put (P := isEq (.int .i64 0)) rfl rfl)
            refine AllG.cons (k' := 106) rfl ?_ ?_
            · intro a' w' hB hk hin KK hK
              obtain ⟨v104, e104, q104⟩ := hin 104 _ 177 rfl rfl ⟨{ on := 104, ground := .data }, by simp, rfl, rfl⟩
              have q104 := fact_get (P := isEq (.int .i64 0)) rfl q104
              have q104' : v104 = .int .i64 0 := q104
              subst q104'
              unfold Oper.wp execOp
              go_simp
              exact hK _ _ hB (KeepsC.of_below (Below.refl _ _)) (fact_put (P := isEq (.bool true)) rfl rfl)
            refine AllG.cons (k' := 107) rfl ?_ ?_
            · intro a' w' hB hk hin KK hK
              obtain ⟨v105, e105, q105⟩ := hin 100 _ 173 rfl rfl ⟨{ on := 100, ground := .data }, by simp, rfl, rfl⟩
              have q105 := fact_get (P := isEq (.bool true)) rfl q105
              have q105' : v105 = .bool true := q105
              subst q105'
              obtain ⟨v106, e106, q106⟩ := hin 105 _ 178 rfl rfl ⟨{ on := 105, ground := .data }, by simp, rfl, rfl⟩
              have q106 := fact_get (P := isEq (.bool true)) rfl q106
              have q106' : v106 = .bool true := q106
              subst q106'
              unfold Oper.wp execOp
              go_simp
              exact hK _ _ hB (KeepsC.of_below (Below.refl _ _)) (fact_put (P := isEq (.bool true)) rfl rfl)
            refine AllG.cons (k' := 108) rfl ?_ ?_
            · intro a' w' hB hk hin KK hK
              obtain ⟨v107, e107, q107⟩ := hin 106 _ 179 rfl rfl ⟨{ on := 106, ground := .data }, by simp, rfl, rfl⟩
              have q107 := fact_get (P := isEq (.bool true)) rfl q107
              have q107' : v107 = .bool true := q107
              subst q107'
              unfold Oper.wp execOp
              go_simp
              exact hK _ _ hB (KeepsC.of_below (Below.refl _ _)) (fact_put (P := isEq (.bool true)) rfl rfl)
            refine AllG.cons (k' := 109) rfl ?_ ?_
            · intro a' w' hB hk hin KK hK
              refine wp_load_valK _ rfl (w1.heap.size + 1) 0 _ (eval_tmp (by rw [hk 2 (by kernel_rfl)]; rfl)) (BX2.out _ hB).1 ?_
              exact hK _ _ hB (KeepsC.of_below (Below.refl _ _)) (fact_put (P := isVal (Vl.mk 2 97 [])) rfl ⟨_, rfl, (BX2.out _ hB).2⟩)
            refine AllG.cons (k' := 110) rfl ?_ ?_
            · intro a' w' hB hk hin KK hK
              refine wp_load_valK _ rfl (w1.heap.size + 1) 0 _ (eval_tmp (by rw [hk 2 (by kernel_rfl)]; rfl)) (BX2.out _ hB).1 ?_
              exact hK _ _ hB (KeepsC.of_below (Below.refl _ _)) (fact_put (P := isVal (Vl.mk 2 97 [])) rfl ⟨_, rfl, (BX2.out _ hB).2⟩)
            refine AllG.cons (k' := 111) rfl ?_ ?_
            · intro a' w' hB hk hin KK hK
              obtain ⟨v108, e108, q108⟩ := hin 108 _ 181 rfl rfl ⟨{ on := 108, ground := .data }, by simp, rfl, rfl⟩
              have q108 := fact_get (P := isVal (Vl.mk 2 97 [])) rfl q108
              obtain ⟨zs108, r108, hat108⟩ := q108
              subst r108
              have ha108 := at_lit hat108
              obtain ⟨k108, z108, a108, len108, cap108, rfl⟩ := ha108
              obtain ⟨v109, e109, q109⟩ := hin 109 _ 182 rfl rfl ⟨{ on := 109, ground := .data }, by simp, rfl, rfl⟩
              have q109 := fact_get (P := isVal (Vl.mk 2 97 [])) rfl q109
              obtain ⟨zs109, r109, hat109⟩ := q109
              subst r109
              have ha109 := at_lit hat109
              obtain ⟨k109, z109, a109, len109, cap109, rfl⟩ := ha109
              have hv := fun cs hc => vals_lit w' [((Vl.mk 2 97 []), [.int .i64 k108, .int .u8 z108, .slice a108 len108 cap108]), ((Vl.mk 2 97 []), [.int .i64 k109, .int .u8 z109, .slice a109 len109 cap109])] (by intro p hp; simp only [List.mem_cons, List.not_mem_nil, or_false] at hp; rcases hp with rfl | rfl <;> assumption) cs hc (by show 2 ≤ maxLen; decide)
              unfold Oper.wp execOp
              go_simp
              exact hK _ _ (hB.alloc hB.size _) (KeepsC.of_below ((Below.refl _ _).alloc (Nat.le_refl _) _)) (fact_put (P := isVals [(Vl.mk 2 97 []), (Vl.mk 2 97 [])]) rfl (hv _ rfl))
            refine AllG.cons (k' := 112) rfl ?_ ?_
            · intro a' w' hB hk hin KK hK
              obtain ⟨v110, e110, q110⟩ := hin 110 _ 183 rfl rfl ⟨{ on := 110, ground := .data }, by simp, rfl, rfl⟩
              have q110 := fact_get (P := isVals [(Vl.mk 2 97 []), (Vl.mk 2 97 [])]) rfl q110
              have hl110 := q110
              obtain ⟨a110, cap110, r110, _⟩ := q110
              subst r110
              unfold Oper.wp execOp
              go_simp
              exact hK _ _ hB (KeepsC.of_below (Below.refl _ _)) (fact_put (P := isVal (Vl.mk 4 0 [(Vl.mk 2 97 []), (Vl.mk 2 97 [])])) rfl ⟨[_, _, _], rfl, at_of_list hl110 rfl (by decide)⟩)
            refine AllG.cons (k' := 113) rfl ?_ ?_
            · intro a' w' hB hk hin KK hK
              obtain ⟨v111, e111, q111⟩ := hin 111 _ 184 rfl rfl ⟨{ on := 111, ground := .data }, by simp, rfl, rfl⟩
              have q111 := fact_get (P := isVal (Vl.mk 4 0 [(Vl.mk 2 97 []), (Vl.mk 2 97 [])])) rfl q111
              obtain ⟨zs111, r111, hat111⟩ := q111
              subst r111
              unfold Oper.wp execOp
              go_simp
              refine (size_eq (n := 2) hat111 (by decide +kernel)).mono ?_
              rintro e wn ⟨rfl, hbn⟩
              exact hK _ _ (hB.trans (hbn.mono hB.size)) (KeepsC.of_below hbn) (fact_put (P := isEq (.int .i64 2)) rfl rfl)
            refine AllG.cons (k' := 114) rfl ?_ ?_
            · intro a' w' hB hk hin KK hK
              obtain ⟨v112, e112, q112⟩ := hin 112 _ 185 rfl rfl ⟨{ on := 112, ground := .data }, by simp, rfl, rfl⟩
              have q112 := fact_get (P := isEq (.int .i64 2)) rfl q112
              have q112' : v112 = .int .i64 2 := q112
              subst q112'
              unfold Oper.wp execOp
              go_simp
              exact hK _ _ hB (KeepsC.of_below (Below.refl _ _)) (fact_put (P := isEq (.bool true)) rfl rfl)
            refine AllG.cons (k' := 115) rfl ?_ ?_
            · intro a' w' hB hk hin KK hK
              obtain ⟨v113, e113, q113⟩ := hin 107 _ 180 rfl rfl ⟨{ on := 107, ground := .data }, by simp, rfl, rfl⟩
              have q113 := fact_get (P := isEq (.bool true)) rfl q113
              have q113' : v113 = .bool true := q113
              subst q113'
              obtain ⟨v114, e114, q114⟩ := hin 113 _ 186 rfl rfl ⟨{ on := 113, ground := .data }, by simp, rfl, rfl⟩
              have q114 := fact_get (P := isEq (.bool true)) rfl q114
              have q114' : v114 = .bool true := q114
              subst q114'
              unfold Oper.wp execOp
              go_simp
              exact hK _ _ hB (KeepsC.of_below (Below.refl _ _)) (fact_put (P := isEq (.bool true)) rfl rfl)
            refine AllG.cons (k' := 116) rfl ?_ ?_
            · intro a' w' hB hk hin KK hK
              obtain ⟨v115, e115, q115⟩ := hin 114 _ 187 rfl rfl ⟨{ on := 114, ground := .data }, by simp, rfl, rfl⟩
              have q115 := fact_get (P := isEq (.bool true)) rfl q115
              have q115' : v115 = .bool true := q115
              subst q115'
              unfold Oper.wp execOp
              go_simp
              exact hK _ _ hB (KeepsC.of_below (Below.refl _ _)) (fact_put (P := isEq (.bool true)) rfl rfl)
            refine AllG.cons (k' := 117) rfl ?_ ?_
            · intro a' w' hB hk hin KK hK
              refine wp_load_valK _ rfl (w1.heap.size + 1) 0 _ (eval_tmp (by rw [hk 2 (by kernel_rfl)]; rfl)) (BX2.out _ hB).1 ?_
              exact hK _ _ hB (KeepsC.of_below (Below.refl _ _)) (fact_put (P := isVal (Vl.mk 2 97 [])) rfl ⟨_, rfl, (BX2.out _ hB).2⟩)
            refine AllG.cons (k' := 118) rfl ?_ ?_
            · intro a' w' hB hk hin KK hK
              obtain ⟨v116, e116, q116⟩ := hin 116 _ 189 rfl rfl ⟨{ on := 116, ground := .data }, by simp, rfl, rfl⟩
              have q116 := fact_get (P := isVal (Vl.mk 2 97 [])) rfl q116
              obtain ⟨zs116, r116, hat116⟩ := q116
              subst r116
              have ha116 := at_lit hat116
              obtain ⟨k116, z116, a116, len116, cap116, rfl⟩ := ha116
              have hv := fun cs hc => vals_lit w' [((Vl.mk 2 97 []), [.int .i64 k116, .int .u8 z116, .slice a116 len116 cap116])] (by intro p hp; simp only [List.mem_cons, List.not_mem_nil, or_false] at hp; rcases hp with rfl <;> assumption) cs hc (by show 1 ≤ maxLen; decide)
              unfold Oper.wp execOp
              go_simp
              exact hK _ _ (hB.alloc hB.size _) (KeepsC.of_below ((Below.refl _ _).alloc (Nat.le_refl _) _)) (fact_put (P := isVals [(Vl.mk 2 97 [])]) rfl (hv _ rfl))
            refine AllG.cons (k' := 119) rfl ?_ ?_
            · intro a' w' hB hk hin KK hK
              obtain ⟨v117, e117, q117⟩ := hin 117 _ 190 rfl rfl ⟨{ on := 117, ground := .data }, by simp, rfl, rfl⟩
              have q117 := fact_get (P := isVals [(Vl.mk 2 97 [])]) rfl q117
              have hl117 := q117
              obtain ⟨a117, cap117, r117, _⟩ := q117
              subst r117
              unfold Oper.wp execOp
              go_simp
              exact hK _ _ hB (KeepsC.of_below (Below.refl _ _)) (fact_put (P := isVal (Vl.mk 1 0 [(Vl.mk 2 97 [])])) rfl ⟨[_, _, _], rfl, at_of_list hl117 rfl (by decide)⟩)
            refine AllG.cons (k' := 120) rfl ?_ ?_
            · intro a' w' hB hk hin KK hK
              obtain ⟨v118, e118, q118⟩ := hin 118 _ 191 rfl rfl ⟨{ on := 118, ground := .data }, by simp, rfl, rfl⟩
              have q118 := fact_get (P := isVal (Vl.mk 1 0 [(Vl.mk 2 97 [])])) rfl q118
              obtain ⟨zs118, r118, hat118⟩ := q118
              subst r118
              unfold Oper.wp execOp
              go_simp
              refine (flat_eq hat118 (l := []) (by decide +kernel)).mono ?_
              rintro e wn ⟨p, c, rfl, hy, hbn⟩
              exact hK _ _ (hB.trans (hbn.mono hB.size)) (KeepsC.of_below hbn) (fact_put (P := isBytes []) rfl ⟨p, c, rfl, hy⟩)
            refine AllG.cons (k' := 121) rfl ?_ ?_
            · intro a' w' hB hk hin KK hK
              obtain ⟨v119, e119, q119⟩ := hin 119 _ 192 rfl rfl ⟨{ on := 119, ground := .data }, by simp, rfl, rfl⟩
              have q119 := fact_get (P := isBytes []) rfl q119
              obtain ⟨p119, c119, r119, hy119⟩ := q119
              subst r119
              unfold Oper.wp execOp
              go_simp
              exact hK _ _ hB (KeepsC.of_below (Below.refl _ _)) (fact_put (P := isEq (.int .i64 0)) rfl rfl)
            refine AllG.cons (k' := 122) rfl ?_ ?_
            · intro a' w' hB hk hin KK hK
              obtain ⟨v120, e120, q120⟩ := hin 120 _ 193 rfl rfl ⟨{ on := 120, ground := .data }, by simp, rfl, rfl⟩
              have q120 := fact_get (P := isEq (.int .i64 0)) rfl q120
              have q120' : v120 = .int .i64 0 := q120
              subst q120'
              unfold Oper.wp execOp
              go_simp
              exact hK _ _ hB (KeepsC.of_below (Below.refl _ _)) (fact_put (P := isEq (.bool true)) rfl rfl)
            refine AllG.cons (k' := 123) rfl ?_ ?_
            · intro a' w' hB hk hin KK hK
              obtain ⟨v121, e121, q121⟩ := hin 115 _ 188 rfl rfl ⟨{ on := 115, ground := .data }, by simp, rfl, rfl⟩
              have q121 := fact_get (P := isEq (.bool true)) rfl q121
              have q121' : v121 = .bool true := q121
              subst q121'
              obtain ⟨v122, e122, q122⟩ := hin 121 _ 194 rfl rfl ⟨{ on := 121, ground := .data }, by simp, rfl, rfl⟩
              have q122 := fact_get (P := isEq (.bool true)) rfl q122
              have q122' : v122 = .bool true := q122
              subst q122'
              unfold Oper.wp execOp
              go_simp
              exact hK _ _ hB (KeepsC.of_below (Below.refl _ _)) (fact_put (P := isEq (.bool true)) rfl rfl)
            refine AllG.cons (k' := 124) rfl ?_ ?_
            · intro a' w' hB hk hin KK hK
              obtain ⟨v123, e123, q123⟩ := hin 122 _ 195 rfl rfl ⟨{ on := 122, ground := .data }, by simp, rfl, rfl⟩
              have q123 := fact_get (P := isEq (.bool true)) rfl q123
              have q123' : v123 = .bool true := q123
              subst q123'
              unfold Oper.wp execOp
              go_simp
              exact hK _ _ hB (KeepsC.of_below (Below.refl _ _)) (fact_put (P := isEq (.bool true)) rfl rfl)
            refine AllG.cons (k' := 125) rfl ?_ ?_
            · intro a' w' hB hk hin KK hK
              refine wp_load_valK _ rfl (W5.heap.size + 1) 0 _ (eval_tmp (by rw [hk 5 (by kernel_rfl)]; rfl)) (BX5.out _ hB).1 ?_
              exact hK _ _ hB (KeepsC.of_below (Below.refl _ _)) (fact_put (P := isVal (Vl.mk 6 0 [(Vl.mk 2 97 []), (Vl.mk 2 97 [])])) rfl ⟨_, rfl, (BX5.out _ hB).2⟩)
            refine AllG.cons (k' := 126) rfl ?_ ?_
            · intro a' w' hB hk hin KK hK
              refine wp_load_valK _ rfl (W5.heap.size + 1) 0 _ (eval_tmp (by rw [hk 5 (by kernel_rfl)]; rfl)) (BX5.out _ hB).1 ?_
              exact hK _ _ hB (KeepsC.of_below (Below.refl _ _)) (fact_put (P := isVal (Vl.mk 6 0 [(Vl.mk 2 97 []), (Vl.mk 2 97 [])])) rfl ⟨_, rfl, (BX5.out _ hB).2⟩)
            refine AllG.cons (k' := 127) rfl ?_ ?_
            · intro a' w' hB hk hin KK hK
              obtain ⟨v124, e124, q124⟩ := hin 124 _ 197 rfl rfl ⟨{ on := 124, ground := .data }, by simp, rfl, rfl⟩
              have q124 := fact_get (P := isVal (Vl.mk 6 0 [(Vl.mk 2 97 []), (Vl.mk 2 97 [])])) rfl q124
              obtain ⟨zs124, r124, hat124⟩ := q124
              subst r124
              obtain ⟨v125, e125, q125⟩ := hin 125 _ 198 rfl rfl ⟨{ on := 125, ground := .data }, by simp, rfl, rfl⟩
              have q125 := fact_get (P := isVal (Vl.mk 6 0 [(Vl.mk 2 97 []), (Vl.mk 2 97 [])])) rfl q125
              obtain ⟨zs125, r125, hat125⟩ := q125
              subst r125
              unfold Oper.wp execOp
              go_simp
              refine (same_eq (b := true) hat124 hat125 (by decide +kernel)).mono ?_
              rintro e wn ⟨rfl, hbn⟩
              exact hK _ _ (hB.trans (hbn.mono hB.size)) (KeepsC.of_below hbn) (fact_put (P := isEq (.bool true)) rfl rfl)
            refine AllG.cons (k' := 128) rfl ?_ ?_
            · intro a' w' hB hk hin KK hK
              obtain ⟨v126, e126, q126⟩ := hin 123 _ 196 rfl rfl ⟨{ on := 123, ground := .data }, by simp, rfl, rfl⟩
              have q126 := fact_get (P := isEq (.bool true)) rfl q126
              have q126' : v126 = .bool true := q126
              subst q126'
              obtain ⟨v127, e127, q127⟩ := hin 126 _ 199 rfl rfl ⟨{ on := 126, ground := .data }, by simp, rfl, rfl⟩
              have q127 := fact_get (P := isEq (.bool true)) rfl q127
              have q127' : v127 = .bool true := q127
              subst q127'
              unfold Oper.wp execOp
              go_simp
              exact hK _ _ hB (KeepsC.of_below (Below.refl _ _)) (fact_put (P := isEq (.bool true)) rfl rfl)
            refine AllG.cons (k' := 129) rfl ?_ ?_
            · intro a' w' hB hk hin KK hK
              obtain ⟨v128, e128, q128⟩ := hin 127 _ 200 rfl rfl ⟨{ on := 127, ground := .data }, by simp, rfl, rfl⟩
              have q128 := fact_get (P := isEq (.bool true)) rfl q128
              have q128' : v128 = .bool true := q128
              subst q128'
              unfold Oper.wp execOp
              go_simp
              exact hK _ _ hB (KeepsC.of_below (Below.refl _ _)) (fact_put (P := isEq (.bool true)) rfl rfl)
            refine AllG.cons (k' := 130) rfl ?_ ?_
            · intro a' w' hB hk hin KK hK
              refine wp_load_valK _ rfl (W5.heap.size + 1) 0 _ (eval_tmp (by rw [hk 5 (by kernel_rfl)]; rfl)) (BX5.out _ hB).1 ?_
              exact hK _ _ hB (KeepsC.of_below (Below.refl _ _)) (fact_put (P := isVal (Vl.mk 6 0 [(Vl.mk 2 97 []), (Vl.mk 2 97 [])])) rfl ⟨_, rfl, (BX5.out _ hB).2⟩)
            refine AllG.cons (k' := 131) rfl ?_ ?_
            · intro a' w' hB hk hin KK hK
              refine wp_load_valK _ rfl (W5.heap.size + 1 + 1 + 1) 0 _ (eval_tmp (by rw [hk 6 (by kernel_rfl)]; rfl)) (BX6.out _ hB).1 ?_
              exact hK _ _ hB (KeepsC.of_below (Below.refl _ _)) (fact_put (P := isVal (Vl.mk 6 0 [(Vl.mk 1 0 [])])) rfl ⟨_, rfl, (BX6.out _ hB).2⟩)
            refine AllG.cons (k' := 132) rfl ?_ ?_
            · intro a' w' hB hk hin KK hK
              obtain ⟨v129, e129, q129⟩ := hin 129 _ 202 rfl rfl ⟨{ on := 129, ground := .data }, by simp, rfl, rfl⟩
              have q129 := fact_get (P := isVal (Vl.mk 6 0 [(Vl.mk 2 97 []), (Vl.mk 2 97 [])])) rfl q129
              obtain ⟨zs129, r129, hat129⟩ := q129
              subst r129
              obtain ⟨v130, e130, q130⟩ := hin 130 _ 203 rfl rfl ⟨{ on := 130, ground := .data }, by simp, rfl, rfl⟩
              have q130 := fact_get (P := isVal (Vl.mk 6 0 [(Vl.mk 1 0 [])])) rfl q130
              obtain ⟨zs130, r130, hat130⟩ := q130
              subst r130
              unfold Oper.wp execOp
              go_simp
              refine (same_eq (b := false) hat129 hat130 (by decide +kernel)).mono ?_
              rintro e wn ⟨rfl, hbn⟩
              exact hK _ _ (hB.trans (hbn.mono hB.size)) (KeepsC.of_below hbn) (fact_put (P := isEq (.bool false)) rfl rfl)
            refine AllG.cons (k' := 133) rfl ?_ ?_
            · intro a' w' hB hk hin KK hK
              obtain ⟨v131, e131, q131⟩ := hin 131 _ 204 rfl rfl ⟨{ on := 131, ground := .data }, by simp, rfl, rfl⟩
              have q131 := fact_get (P := isEq (.bool false)) rfl q131
              have q131' : v131 = .bool false := q131
              subst q131'
              unfold Oper.wp execOp
              go_simp
              exact hK _ _ hB (KeepsC.of_below (Below.refl _ _)) (fact_put (P := isEq (.bool true)) rfl rfl)
            refine AllG.cons (k' := 134) rfl ?_ ?_
            · intro a' w' hB hk hin KK hK
              obtain ⟨v132, e132, q132⟩ := hin 128 _ 201 rfl rfl ⟨{ on := 128, ground := .data }, by simp, rfl, rfl⟩
              have q132 := fact_get (P := isEq (.bool true)) rfl q132
              have q132' : v132 = .bool true := q132
              subst q132'
              obtain ⟨v133, e133, q133⟩ := hin 132 _ 205 rfl rfl ⟨{ on := 132, ground := .data }, by simp, rfl, rfl⟩
              have q133 := fact_get (P := isEq (.bool true)) rfl q133
              have q133' : v133 = .bool true := q133
              subst q133'
              unfold Oper.wp execOp
              go_simp
              exact hK _ _ hB (KeepsC.of_below (Below.refl _ _)) (fact_put (P := isEq (.bool true)) rfl rfl)
            refine AllG.cons (k' := 135) rfl ?_ ?_
            · intro a' w' hB hk hin KK hK
              obtain ⟨v134, e134, q134⟩ := hin 133 _ 206 rfl rfl ⟨{ on := 133, ground := .data }, by simp, rfl, rfl⟩
              have q134 := fact_get (P := isEq (.bool true)) rfl q134
              have q134' : v134 = .bool true := q134
              subst q134'
              unfold Oper.wp execOp
              go_simp
              exact hK _ _ hB (KeepsC.of_below (Below.refl _ _)) (fact_put (P := isEq (.bool true)) rfl rfl)
            exact AllG.nil
          case hend =>
           intro a' w' hB hdef hsz hk hvals
           obtain ⟨v', hv', hvt⟩ := hvals 134 _ 0 rfl rfl
           have hvt' := fact_get (P := isEq (.bool true)) rfl hvt
           have hvt2 : v' = .bool true := hvt'
           subst hvt2
           have hf0 : a'.tmps.getD 0 undef = .bool true := by rw [Array.getD_eq_getD_getElem?, hv']; rfl
           have heq := act_eq hdef hsz hk
           refine hMet a' w' (Met.intro (hR a' w' ?_))
           refine ⟨a'.tmps.getD 0 undef, a'.tmps.getD 73 undef, a'.tmps.getD 74 undef, a'.tmps.getD 75 undef, a'.tmps.getD 76 undef, a'.tmps.getD 77 undef, a'.tmps.getD 78 undef, a'.tmps.getD 79 undef, a'.tmps.getD 80 undef, a'.tmps.getD 81 undef, a'.tmps.getD 82 undef, a'.tmps.getD 83 undef, a'.tmps.getD 84 undef, a'.tmps.getD 85 undef, a'.tmps.getD 86 undef, a'.tmps.getD 87 undef, a'.tmps.getD 88 undef, a'.tmps.getD 89 undef, a'.tmps.getD 90 undef, a'.tmps.getD 91 undef, a'.tmps.getD 92 undef, a'.tmps.getD 93 undef, a'.tmps.getD 94 undef, a'.tmps.getD 95 undef, a'.tmps.getD 96 undef, a'.tmps.getD 97 undef, a'.tmps.getD 98 undef, a'.tmps.getD 99 undef, a'.tmps.getD 100 undef, a'.tmps.getD 101 undef, a'.tmps.getD 102 undef, a'.tmps.getD 103 undef, a'.tmps.getD 104 undef, a'.tmps.getD 105 undef, a'.tmps.getD 106 undef, a'.tmps.getD 107 undef, a'.tmps.getD 108 undef, a'.tmps.getD 109 undef, a'.tmps.getD 110 undef, a'.tmps.getD 111 undef, a'.tmps.getD 112 undef, a'.tmps.getD 113 undef, a'.tmps.getD 114 undef, a'.tmps.getD 115 undef, a'.tmps.getD 116 undef, a'.tmps.getD 117 undef, a'.tmps.getD 118 undef, a'.tmps.getD 119 undef, a'.tmps.getD 120 undef, a'.tmps.getD 121 undef, a'.tmps.getD 122 undef, a'.tmps.getD 123 undef, a'.tmps.getD 124 undef, a'.tmps.getD 125 undef, a'.tmps.getD 126 undef, a'.tmps.getD 127 undef, a'.tmps.getD 128 undef, a'.tmps.getD 129 undef, a'.tmps.getD 130 undef, a'.tmps.getD 131 undef, a'.tmps.getD 132 undef, a'.tmps.getD 133 undef, a'.tmps.getD 134 undef, a'.tmps.getD 135 undef, a'.tmps.getD 136 undef, a'.tmps.getD 137 undef, a'.tmps.getD 138 undef, a'.tmps.getD 139 undef, a'.tmps.getD 140 undef, a'.tmps.getD 141 undef, a'.tmps.getD 142 undef, a'.tmps.getD 143 undef, a'.tmps.getD 144 undef, a'.tmps.getD 145 undef, a'.tmps.getD 146 undef, a'.tmps.getD 147 undef, a'.tmps.getD 148 undef, a'.tmps.getD 149 undef, a'.tmps.getD 150 undef, a'.tmps.getD 151 undef, a'.tmps.getD 152 undef, a'.tmps.getD 153 undef, a'.tmps.getD 154 undef, a'.tmps.getD 155 undef, a'.tmps.getD 156 undef, a'.tmps.getD 157 undef, a'.tmps.getD 158 undef, a'.tmps.getD 159 undef, a'.tmps.getD 160 undef, a'.tmps.getD 161 undef, a'.tmps.getD 162 undef, a'.tmps.getD 163 undef, a'.tmps.getD 164 undef, a'.tmps.getD 165 undef, a'.tmps.getD 166 undef, a'.tmps.getD 167 undef, a'.tmps.getD 168 undef, a'.tmps.getD 169 undef, a'.tmps.getD 170 undef, a'.tmps.getD 171 undef, a'.tmps.getD 172 undef, a'.tmps.getD 173 undef, a'.tmps.getD 174 undef, a'.tmps.getD 175 undef, a'.tmps.getD 176 undef, a'.tmps.getD 177 undef, a'.tmps.getD 178 undef, a'.tmps.getD 179 undef, a'.tmps.getD 180 undef, a'.tmps.getD 181 undef, a'.tmps.getD 182 undef, a'.tmps.getD 183 undef, a'.tmps.getD 184 undef, a'.tmps.getD 185 undef, a'.tmps.getD 186 undef, a'.tmps.getD 187 undef, a'.tmps.getD 188 undef, a'.tmps.getD 189 undef, a'.tmps.getD 190 undef, a'.tmps.getD 191 undef, a'.tmps.getD 192 undef, a'.tmps.getD 193 undef, a'.tmps.getD 194 undef, a'.tmps.getD 195 undef, a'.tmps.getD 196 undef, a'.tmps.getD 197 undef, a'.tmps.getD 198 undef, a'.tmps.getD 199 undef, a'.tmps.getD 200 undef, a'.tmps.getD 201 undef, a'.tmps.getD 202 undef, a'.tmps.getD 203 undef, a'.tmps.getD 204 undef, a'.tmps.getD 205 undef, a'.tmps.getD 206 undef, ⟨hf0, hB⟩, heq.trans ?_⟩
           kernel_rfl
         case rest =>
          obtain ⟨rfl, hBc⟩ := hcut
          have Hfin := Lib.hid (H10.out.trans ((hB.out.trans (hBc.mono hB.out.size)).mono H10.out.size))
          clear hBc
          go_wp2_with fail
          go_ret
          exact ⟨rfl, Hfin.out⟩
end V
end Go.Proofs.Ytddbheoncbphhaa
