/- The walk of Named, name by name. -/
import Derived.Test.YtlgpbgcheeaalaaGreatDoorClassSets
namespace Go.Proofs.YtlgpbgcheeaalaaGreatDoor
set_option maxRecDepth 100000
open Go.RowKit
theorem cell_alloc_old {w : World} {b o : Nat} (h : b < w.heap.size) (O : Obj) : (w.alloc O).cell? ⟨b, o, none⟩ = w.cell? ⟨b, o, none⟩ := World.cell?_alloc_past O b o h
theorem frozen_alloc_old {w : World} {b o : Nat} (h : b < w.heap.size) (O : Obj) : (w.alloc O).frozen? ⟨b, o, none⟩ = w.frozen? ⟨b, o, none⟩ := World.frozen?_alloc_past O b o h
theorem bytesAt_new {w : World} {O : Obj} {t : TypeId} (l : List Nat) (hl : ∀ x ∈ l, x < 256) (hm : l.length ≤ maxLen) {g n cap : Nat} (hO : O = .cells (l.map u8v).toArray t (0, 0)) (hg : g = w.heap.size) (hn : n = l.length) (hc : n ≤ cap) :
    BytesAt (w.alloc O) (some ⟨g, 0, none⟩) n cap l := by
  subst hO hg hn
  refine ⟨rfl, hl, hm, .inr ⟨_, 0, rfl, hc, by simp, fun j hj => ?_⟩⟩
  rw [Nat.zero_add, World.cell?_alloc_at _ _ _ _ rfl]
  simp [List.getElem?_map, List.getElem?_eq_getElem hj, List.getD_eq_getElem?_getD]
set_option maxHeartbeats 1000000 in
theorem named_upper (n : ByteArray)  (n0 : (n.toList == [117, 112, 112, 101, 114]) = true) (w : World) : Calls Tryz.prog 144 #[.string n] w fun e w' => e = .returned (.tuple #[SV cUpper, .bool true]) ∧ Below w.heap.size w w' := by
  go_enter Tryz.func144, Tryz.ntmps144
  go_wp2_with fail
  refine (upper_any _).mono ?_
  rintro e w1 ⟨rfl, hb1⟩
  have c1 : ∀ o, w1.cell? ⟨w.heap.size, o, none⟩ = _ := fun o => hb1.cell (p := ⟨w.heap.size, o, none⟩) (by simp; try omega)
  have f1 : ∀ o, w1.frozen? ⟨w.heap.size, o, none⟩ = _ := fun o => hb1.frozen (p := ⟨w.heap.size, o, none⟩) (by simp; try omega)
  have hz1 : w.heap.size < w1.heap.size := by have := hb1.size; simp at this; omega
  have B1 : Below w.heap.size w w1 := ((Below.refl _ _).alloc (Nat.le_refl _) _).trans (hb1.mono (by simp))
  go_wp2_with fail
  refine bodyPost_ret (v := .tuple #[SV cUpper, .bool true]) (by simp [results, Tryz.results144, go_sem, c1]) rfl ⟨rfl, ?_⟩
  repeat (first | exact B1 | refine Below.drew ?_ | refine Below.setCell ?_ (by simp) _)
set_option maxHeartbeats 1000000 in
theorem named_lower (n : ByteArray) (n0 : (n.toList == [117, 112, 112, 101, 114]) = false) (n1 : (n.toList == [108, 111, 119, 101, 114]) = true) (w : World) : Calls Tryz.prog 144 #[.string n] w fun e w' => e = .returned (.tuple #[SV cLower, .bool true]) ∧ Below w.heap.size w w' := by
  go_enter Tryz.func144, Tryz.ntmps144
  go_wp2_with fail
  refine (lower_any _).mono ?_
  rintro e w1 ⟨rfl, hb1⟩
  have c1 : ∀ o, w1.cell? ⟨w.heap.size, o, none⟩ = _ := fun o => hb1.cell (p := ⟨w.heap.size, o, none⟩) (by simp; try omega)
  have f1 : ∀ o, w1.frozen? ⟨w.heap.size, o, none⟩ = _ := fun o => hb1.frozen (p := ⟨w.heap.size, o, none⟩) (by simp; try omega)
  have hz1 : w.heap.size < w1.heap.size := by have := hb1.size; simp at this; omega
  have B1 : Below w.heap.size w w1 := ((Below.refl _ _).alloc (Nat.le_refl _) _).trans (hb1.mono (by simp))
  go_wp2_with fail
  refine bodyPost_ret (v := .tuple #[SV cLower, .bool true]) (by simp [results, Tryz.results144, go_sem, c1]) rfl ⟨rfl, ?_⟩
  repeat (first | exact B1 | refine Below.drew ?_ | refine Below.setCell ?_ (by simp) _)
set_option maxHeartbeats 1000000 in
theorem named_alpha (n : ByteArray) (n0 : (n.toList == [117, 112, 112, 101, 114]) = false) (n1 : (n.toList == [108, 111, 119, 101, 114]) = false) (n2 : (n.toList == [97, 108, 112, 104, 97]) = true) (w : World) : Calls Tryz.prog 144 #[.string n] w fun e w' => e = .returned (.tuple #[SV cAlpha, .bool true]) ∧ Below w.heap.size w w' := by
  go_enter Tryz.func144, Tryz.ntmps144
  go_wp2_with fail
  refine (alpha_any _).mono ?_
  rintro e w1 ⟨rfl, hb1⟩
  have c1 : ∀ o, w1.cell? ⟨w.heap.size, o, none⟩ = _ := fun o => hb1.cell (p := ⟨w.heap.size, o, none⟩) (by simp; try omega)
  have f1 : ∀ o, w1.frozen? ⟨w.heap.size, o, none⟩ = _ := fun o => hb1.frozen (p := ⟨w.heap.size, o, none⟩) (by simp; try omega)
  have hz1 : w.heap.size < w1.heap.size := by have := hb1.size; simp at this; omega
  have B1 : Below w.heap.size w w1 := ((Below.refl _ _).alloc (Nat.le_refl _) _).trans (hb1.mono (by simp))
  go_wp2_with fail
  refine bodyPost_ret (v := .tuple #[SV cAlpha, .bool true]) (by simp [results, Tryz.results144, go_sem, c1]) rfl ⟨rfl, ?_⟩
  repeat (first | exact B1 | refine Below.drew ?_ | refine Below.setCell ?_ (by simp) _)
set_option maxHeartbeats 1000000 in
theorem named_digit (n : ByteArray) (n0 : (n.toList == [117, 112, 112, 101, 114]) = false) (n1 : (n.toList == [108, 111, 119, 101, 114]) = false) (n2 : (n.toList == [97, 108, 112, 104, 97]) = false) (n3 : (n.toList == [100, 105, 103, 105, 116]) = true) (w : World) : Calls Tryz.prog 144 #[.string n] w fun e w' => e = .returned (.tuple #[SV cDigit, .bool true]) ∧ Below w.heap.size w w' := by
  go_enter Tryz.func144, Tryz.ntmps144
  go_wp2_with fail
  refine (digit_any _).mono ?_
  rintro e w1 ⟨rfl, hb1⟩
  have c1 : ∀ o, w1.cell? ⟨w.heap.size, o, none⟩ = _ := fun o => hb1.cell (p := ⟨w.heap.size, o, none⟩) (by simp; try omega)
  have f1 : ∀ o, w1.frozen? ⟨w.heap.size, o, none⟩ = _ := fun o => hb1.frozen (p := ⟨w.heap.size, o, none⟩) (by simp; try omega)
  have hz1 : w.heap.size < w1.heap.size := by have := hb1.size; simp at this; omega
  have B1 : Below w.heap.size w w1 := ((Below.refl _ _).alloc (Nat.le_refl _) _).trans (hb1.mono (by simp))
  go_wp2_with fail
  refine bodyPost_ret (v := .tuple #[SV cDigit, .bool true]) (by simp [results, Tryz.results144, go_sem, c1]) rfl ⟨rfl, ?_⟩
  repeat (first | exact B1 | refine Below.drew ?_ | refine Below.setCell ?_ (by simp) _)
set_option maxHeartbeats 1000000 in
theorem named_alnum (n : ByteArray) (n0 : (n.toList == [117, 112, 112, 101, 114]) = false) (n1 : (n.toList == [108, 111, 119, 101, 114]) = false) (n2 : (n.toList == [97, 108, 112, 104, 97]) = false) (n3 : (n.toList == [100, 105, 103, 105, 116]) = false) (n4 : (n.toList == [97, 108, 110, 117, 109]) = true) (w : World) : Calls Tryz.prog 144 #[.string n] w fun e w' => e = .returned (.tuple #[SV cAlnum, .bool true]) ∧ Below w.heap.size w w' := by
  go_enter Tryz.func144, Tryz.ntmps144
  go_wp2_with fail
  refine (alnum_any _).mono ?_
  rintro e w1 ⟨rfl, hb1⟩
  have c1 : ∀ o, w1.cell? ⟨w.heap.size, o, none⟩ = _ := fun o => hb1.cell (p := ⟨w.heap.size, o, none⟩) (by simp; try omega)
  have f1 : ∀ o, w1.frozen? ⟨w.heap.size, o, none⟩ = _ := fun o => hb1.frozen (p := ⟨w.heap.size, o, none⟩) (by simp; try omega)
  have hz1 : w.heap.size < w1.heap.size := by have := hb1.size; simp at this; omega
  have B1 : Below w.heap.size w w1 := ((Below.refl _ _).alloc (Nat.le_refl _) _).trans (hb1.mono (by simp))
  go_wp2_with fail
  refine bodyPost_ret (v := .tuple #[SV cAlnum, .bool true]) (by simp [results, Tryz.results144, go_sem, c1]) rfl ⟨rfl, ?_⟩
  repeat (first | exact B1 | refine Below.drew ?_ | refine Below.setCell ?_ (by simp) _)
set_option maxHeartbeats 1000000 in
theorem named_xdigit (n : ByteArray) (n0 : (n.toList == [117, 112, 112, 101, 114]) = false) (n1 : (n.toList == [108, 111, 119, 101, 114]) = false) (n2 : (n.toList == [97, 108, 112, 104, 97]) = false) (n3 : (n.toList == [100, 105, 103, 105, 116]) = false) (n4 : (n.toList == [97, 108, 110, 117, 109]) = false) (n5 : (n.toList == [120, 100, 105, 103, 105, 116]) = true) (w : World) : Calls Tryz.prog 144 #[.string n] w fun e w' => e = .returned (.tuple #[SV cXdigit, .bool true]) ∧ Below w.heap.size w w' := by
  have hr65 := range_lit 65 70
  rw [show setOf (upTo 65 70) = cXA from rfl] at hr65
  have hr97 := range_lit 97 102
  rw [show setOf (upTo 97 102) = cXa from rfl] at hr97
  have h1 := or_any cDigit cXA
  rw [show cDigit ||| cXA = cXd from rfl] at h1
  have h2 := or_any cXd cXa
  rw [show cXd ||| cXa = cXdigit from rfl] at h2
  go_enter Tryz.func144, Tryz.ntmps144
  go_wp2_with fail
  refine (digit_any _).mono ?_
  rintro e w1 ⟨rfl, hb1⟩
  have c1 : ∀ o, w1.cell? ⟨w.heap.size, o, none⟩ = _ := fun o => hb1.cell (p := ⟨w.heap.size, o, none⟩) (by simp; try omega)
  have f1 : ∀ o, w1.frozen? ⟨w.heap.size, o, none⟩ = _ := fun o => hb1.frozen (p := ⟨w.heap.size, o, none⟩) (by simp; try omega)
  have hz1 : w.heap.size < w1.heap.size := by have := hb1.size; simp at this; omega
  have B1 : Below w.heap.size w w1 := ((Below.refl _ _).alloc (Nat.le_refl _) _).trans (hb1.mono (by simp))
  go_wp2_with fail
  refine (hr65 _ _ (by omega) (by omega) (by decide) (by decide) _).mono ?_
  rintro e w2 ⟨rfl, hb2⟩
  have c2 : ∀ o, w2.cell? ⟨w.heap.size, o, none⟩ = w1.cell? ⟨w.heap.size, o, none⟩ := fun o => hb2.cell (p := ⟨w.heap.size, o, none⟩) hz1
  have f2 : ∀ o, w2.frozen? ⟨w.heap.size, o, none⟩ = w1.frozen? ⟨w.heap.size, o, none⟩ := fun o => hb2.frozen (p := ⟨w.heap.size, o, none⟩) hz1
  have hz2 : w.heap.size < w2.heap.size := by have := hb2.size; omega
  have B2 : Below w.heap.size w w2 := B1.trans (hb2.mono (by omega))
  go_wp2_with fail
  refine (h1 _).mono ?_
  rintro e w3 ⟨rfl, hb3⟩
  have c3 : ∀ o, w3.cell? ⟨w.heap.size, o, none⟩ = w2.cell? ⟨w.heap.size, o, none⟩ := fun o => hb3.cell (p := ⟨w.heap.size, o, none⟩) hz2
  have f3 : ∀ o, w3.frozen? ⟨w.heap.size, o, none⟩ = w2.frozen? ⟨w.heap.size, o, none⟩ := fun o => hb3.frozen (p := ⟨w.heap.size, o, none⟩) hz2
  have hz3 : w.heap.size < w3.heap.size := by have := hb3.size; omega
  have B3 : Below w.heap.size w w3 := B2.trans (hb3.mono (by omega))
  go_wp2_with fail
  refine (hr97 _ _ (by omega) (by omega) (by decide) (by decide) _).mono ?_
  rintro e w4 ⟨rfl, hb4⟩
  have c4 : ∀ o, w4.cell? ⟨w.heap.size, o, none⟩ = w3.cell? ⟨w.heap.size, o, none⟩ := fun o => hb4.cell (p := ⟨w.heap.size, o, none⟩) hz3
  have f4 : ∀ o, w4.frozen? ⟨w.heap.size, o, none⟩ = w3.frozen? ⟨w.heap.size, o, none⟩ := fun o => hb4.frozen (p := ⟨w.heap.size, o, none⟩) hz3
  have hz4 : w.heap.size < w4.heap.size := by have := hb4.size; omega
  have B4 : Below w.heap.size w w4 := B3.trans (hb4.mono (by omega))
  go_wp2_with fail
  refine (h2 _).mono ?_
  rintro e w5 ⟨rfl, hb5⟩
  have c5 : ∀ o, w5.cell? ⟨w.heap.size, o, none⟩ = w4.cell? ⟨w.heap.size, o, none⟩ := fun o => hb5.cell (p := ⟨w.heap.size, o, none⟩) hz4
  have f5 : ∀ o, w5.frozen? ⟨w.heap.size, o, none⟩ = w4.frozen? ⟨w.heap.size, o, none⟩ := fun o => hb5.frozen (p := ⟨w.heap.size, o, none⟩) hz4
  have hz5 : w.heap.size < w5.heap.size := by have := hb5.size; omega
  have B5 : Below w.heap.size w w5 := B4.trans (hb5.mono (by omega))
  go_wp2_with fail
  refine bodyPost_ret (v := .tuple #[SV cXdigit, .bool true]) (by simp [results, Tryz.results144, go_sem, c1, c2, c3, c4, c5]) rfl ⟨rfl, ?_⟩
  repeat (first | exact B5 | refine Below.drew ?_ | refine Below.setCell ?_ (by simp) _)
set_option maxHeartbeats 1000000 in
theorem named_blank (n : ByteArray) (n0 : (n.toList == [117, 112, 112, 101, 114]) = false) (n1 : (n.toList == [108, 111, 119, 101, 114]) = false) (n2 : (n.toList == [97, 108, 112, 104, 97]) = false) (n3 : (n.toList == [100, 105, 103, 105, 116]) = false) (n4 : (n.toList == [97, 108, 110, 117, 109]) = false) (n5 : (n.toList == [120, 100, 105, 103, 105, 116]) = false) (n6 : (n.toList == [98, 108, 97, 110, 107]) = true) (w : World) : Calls Tryz.prog 144 #[.string n] w fun e w' => e = .returned (.tuple #[SV cBlank, .bool true]) ∧ Below w.heap.size w w' := by
  have ho := fun g n cap w => of_any g n cap [32, 9] w
  rw [show setOf [32, 9] = cBlank from rfl] at ho
  go_enter Tryz.func144, Tryz.ntmps144
  go_wp2_with fail
  refine (ho _ _ _ _ (bytesAt_new [32, 9] (by decide) (by decide) rfl (by simp) rfl (by decide))).mono ?_
  rintro e w1 ⟨rfl, hb1⟩
  have c1 : ∀ o, w1.cell? ⟨w.heap.size, o, none⟩ = _ := fun o => hb1.cell (p := ⟨w.heap.size, o, none⟩) (by simp; try omega)
  have f1 : ∀ o, w1.frozen? ⟨w.heap.size, o, none⟩ = _ := fun o => hb1.frozen (p := ⟨w.heap.size, o, none⟩) (by simp; try omega)
  have hz1 : w.heap.size < w1.heap.size := by have := hb1.size; simp at this; omega
  have B1 : Below w.heap.size w w1 := (((Below.refl _ _).alloc (Nat.le_refl _) _).alloc (by simp) _).trans (hb1.mono (by simp; omega))
  go_wp2_with fail
  refine bodyPost_ret (v := .tuple #[SV cBlank, .bool true]) (by simp [results, Tryz.results144, go_sem, c1]) rfl ⟨rfl, ?_⟩
  repeat (first | exact B1 | refine Below.drew ?_ | refine Below.setCell ?_ (by simp) _)
set_option maxHeartbeats 1000000 in
theorem named_space (n : ByteArray) (n0 : (n.toList == [117, 112, 112, 101, 114]) = false) (n1 : (n.toList == [108, 111, 119, 101, 114]) = false) (n2 : (n.toList == [97, 108, 112, 104, 97]) = false) (n3 : (n.toList == [100, 105, 103, 105, 116]) = false) (n4 : (n.toList == [97, 108, 110, 117, 109]) = false) (n5 : (n.toList == [120, 100, 105, 103, 105, 116]) = false) (n6 : (n.toList == [98, 108, 97, 110, 107]) = false) (n7 : (n.toList == [115, 112, 97, 99, 101]) = true) (w : World) : Calls Tryz.prog 144 #[.string n] w fun e w' => e = .returned (.tuple #[SV cSpace, .bool true]) ∧ Below w.heap.size w w' := by
  have hr9 := range_lit 9 13
  rw [show setOf (upTo 9 13) = cWhite from rfl] at hr9
  have ho := fun g n cap w => of_any g n cap [32] w
  rw [show setOf [32] = cOne32 from rfl] at ho
  have h1 := or_any cWhite cOne32
  rw [show cWhite ||| cOne32 = cSpace from rfl] at h1
  go_enter Tryz.func144, Tryz.ntmps144
  go_wp2_with fail
  refine (hr9 _ _ (by omega) (by omega) (by decide) (by decide) _).mono ?_
  rintro e w1 ⟨rfl, hb1⟩
  have c1 : ∀ o, w1.cell? ⟨w.heap.size, o, none⟩ = _ := fun o => hb1.cell (p := ⟨w.heap.size, o, none⟩) (by simp; try omega)
  have f1 : ∀ o, w1.frozen? ⟨w.heap.size, o, none⟩ = _ := fun o => hb1.frozen (p := ⟨w.heap.size, o, none⟩) (by simp; try omega)
  have hz1 : w.heap.size < w1.heap.size := by have := hb1.size; simp at this; omega
  have B1 : Below w.heap.size w w1 := ((Below.refl _ _).alloc (Nat.le_refl _) _).trans (hb1.mono (by simp))
  go_wp2_with fail
  refine (ho _ _ _ _ (bytesAt_new [32] (by decide) (by decide) rfl (by simp) rfl (by decide))).mono ?_
  rintro e w2 ⟨rfl, hb2⟩
  have c2 : ∀ o, w2.cell? ⟨w.heap.size, o, none⟩ = _ := fun o => hb2.cell (p := ⟨w.heap.size, o, none⟩) (by simp; omega)
  have f2 : ∀ o, w2.frozen? ⟨w.heap.size, o, none⟩ = _ := fun o => hb2.frozen (p := ⟨w.heap.size, o, none⟩) (by simp; omega)
  simp only [cell_alloc_old hz1, frozen_alloc_old hz1] at c2 f2
  have hz2 : w.heap.size < w2.heap.size := by have := hb2.size; simp at this; omega
  have B2 : Below w.heap.size w w2 := (B1.alloc (by omega) _).trans (hb2.mono (by simp; omega))
  go_wp2_with fail
  refine (h1 _).mono ?_
  rintro e w3 ⟨rfl, hb3⟩
  have c3 : ∀ o, w3.cell? ⟨w.heap.size, o, none⟩ = w2.cell? ⟨w.heap.size, o, none⟩ := fun o => hb3.cell (p := ⟨w.heap.size, o, none⟩) hz2
  have f3 : ∀ o, w3.frozen? ⟨w.heap.size, o, none⟩ = w2.frozen? ⟨w.heap.size, o, none⟩ := fun o => hb3.frozen (p := ⟨w.heap.size, o, none⟩) hz2
  have hz3 : w.heap.size < w3.heap.size := by have := hb3.size; omega
  have B3 : Below w.heap.size w w3 := B2.trans (hb3.mono (by omega))
  go_wp2_with fail
  refine bodyPost_ret (v := .tuple #[SV cSpace, .bool true]) (by simp [results, Tryz.results144, go_sem, c1, c2, c3]) rfl ⟨rfl, ?_⟩
  repeat (first | exact B3 | refine Below.drew ?_ | refine Below.setCell ?_ (by simp) _)
set_option maxHeartbeats 1000000 in
theorem named_cntrl (n : ByteArray) (n0 : (n.toList == [117, 112, 112, 101, 114]) = false) (n1 : (n.toList == [108, 111, 119, 101, 114]) = false) (n2 : (n.toList == [97, 108, 112, 104, 97]) = false) (n3 : (n.toList == [100, 105, 103, 105, 116]) = false) (n4 : (n.toList == [97, 108, 110, 117, 109]) = false) (n5 : (n.toList == [120, 100, 105, 103, 105, 116]) = false) (n6 : (n.toList == [98, 108, 97, 110, 107]) = false) (n7 : (n.toList == [115, 112, 97, 99, 101]) = false) (n8 : (n.toList == [99, 110, 116, 114, 108]) = true) (w : World) : Calls Tryz.prog 144 #[.string n] w fun e w' => e = .returned (.tuple #[SV cCntrl, .bool true]) ∧ Below w.heap.size w w' := by
  have hr0 := range_lit 0 31
  rw [show setOf (upTo 0 31) = cLow from rfl] at hr0
  have ho := fun g n cap w => of_any g n cap [127] w
  rw [show setOf [127] = cOne127 from rfl] at ho
  have h1 := or_any cLow cOne127
  rw [show cLow ||| cOne127 = cCntrl from rfl] at h1
  go_enter Tryz.func144, Tryz.ntmps144
  go_wp2_with fail
  refine (hr0 _ _ (by omega) (by omega) (by decide) (by decide) _).mono ?_
  rintro e w1 ⟨rfl, hb1⟩
  have c1 : ∀ o, w1.cell? ⟨w.heap.size, o, none⟩ = _ := fun o => hb1.cell (p := ⟨w.heap.size, o, none⟩) (by simp; try omega)
  have f1 : ∀ o, w1.frozen? ⟨w.heap.size, o, none⟩ = _ := fun o => hb1.frozen (p := ⟨w.heap.size, o, none⟩) (by simp; try omega)
  have hz1 : w.heap.size < w1.heap.size := by have := hb1.size; simp at this; omega
  have B1 : Below w.heap.size w w1 := ((Below.refl _ _).alloc (Nat.le_refl _) _).trans (hb1.mono (by simp))
  go_wp2_with fail
  refine (ho _ _ _ _ (bytesAt_new [127] (by decide) (by decide) rfl (by simp) rfl (by decide))).mono ?_
  rintro e w2 ⟨rfl, hb2⟩
  have c2 : ∀ o, w2.cell? ⟨w.heap.size, o, none⟩ = _ := fun o => hb2.cell (p := ⟨w.heap.size, o, none⟩) (by simp; omega)
  have f2 : ∀ o, w2.frozen? ⟨w.heap.size, o, none⟩ = _ := fun o => hb2.frozen (p := ⟨w.heap.size, o, none⟩) (by simp; omega)
  simp only [cell_alloc_old hz1, frozen_alloc_old hz1] at c2 f2
  have hz2 : w.heap.size < w2.heap.size := by have := hb2.size; simp at this; omega
  have B2 : Below w.heap.size w w2 := (B1.alloc (by omega) _).trans (hb2.mono (by simp; omega))
  go_wp2_with fail
  refine (h1 _).mono ?_
  rintro e w3 ⟨rfl, hb3⟩
  have c3 : ∀ o, w3.cell? ⟨w.heap.size, o, none⟩ = w2.cell? ⟨w.heap.size, o, none⟩ := fun o => hb3.cell (p := ⟨w.heap.size, o, none⟩) hz2
  have f3 : ∀ o, w3.frozen? ⟨w.heap.size, o, none⟩ = w2.frozen? ⟨w.heap.size, o, none⟩ := fun o => hb3.frozen (p := ⟨w.heap.size, o, none⟩) hz2
  have hz3 : w.heap.size < w3.heap.size := by have := hb3.size; omega
  have B3 : Below w.heap.size w w3 := B2.trans (hb3.mono (by omega))
  go_wp2_with fail
  refine bodyPost_ret (v := .tuple #[SV cCntrl, .bool true]) (by simp [results, Tryz.results144, go_sem, c1, c2, c3]) rfl ⟨rfl, ?_⟩
  repeat (first | exact B3 | refine Below.drew ?_ | refine Below.setCell ?_ (by simp) _)
set_option maxHeartbeats 1000000 in
theorem named_punct (n : ByteArray) (n0 : (n.toList == [117, 112, 112, 101, 114]) = false) (n1 : (n.toList == [108, 111, 119, 101, 114]) = false) (n2 : (n.toList == [97, 108, 112, 104, 97]) = false) (n3 : (n.toList == [100, 105, 103, 105, 116]) = false) (n4 : (n.toList == [97, 108, 110, 117, 109]) = false) (n5 : (n.toList == [120, 100, 105, 103, 105, 116]) = false) (n6 : (n.toList == [98, 108, 97, 110, 107]) = false) (n7 : (n.toList == [115, 112, 97, 99, 101]) = false) (n8 : (n.toList == [99, 110, 116, 114, 108]) = false) (n9 : (n.toList == [112, 117, 110, 99, 116]) = true) (w : World) : Calls Tryz.prog 144 #[.string n] w fun e w' => e = .returned (.tuple #[SV cPunct, .bool true]) ∧ Below w.heap.size w w' := by
  go_enter Tryz.func144, Tryz.ntmps144
  go_wp2_with fail
  refine (punct_any _).mono ?_
  rintro e w1 ⟨rfl, hb1⟩
  have c1 : ∀ o, w1.cell? ⟨w.heap.size, o, none⟩ = _ := fun o => hb1.cell (p := ⟨w.heap.size, o, none⟩) (by simp; try omega)
  have f1 : ∀ o, w1.frozen? ⟨w.heap.size, o, none⟩ = _ := fun o => hb1.frozen (p := ⟨w.heap.size, o, none⟩) (by simp; try omega)
  have hz1 : w.heap.size < w1.heap.size := by have := hb1.size; simp at this; omega
  have B1 : Below w.heap.size w w1 := ((Below.refl _ _).alloc (Nat.le_refl _) _).trans (hb1.mono (by simp))
  go_wp2_with fail
  refine bodyPost_ret (v := .tuple #[SV cPunct, .bool true]) (by simp [results, Tryz.results144, go_sem, c1]) rfl ⟨rfl, ?_⟩
  repeat (first | exact B1 | refine Below.drew ?_ | refine Below.setCell ?_ (by simp) _)
set_option maxHeartbeats 1000000 in
theorem named_graph (n : ByteArray) (n0 : (n.toList == [117, 112, 112, 101, 114]) = false) (n1 : (n.toList == [108, 111, 119, 101, 114]) = false) (n2 : (n.toList == [97, 108, 112, 104, 97]) = false) (n3 : (n.toList == [100, 105, 103, 105, 116]) = false) (n4 : (n.toList == [97, 108, 110, 117, 109]) = false) (n5 : (n.toList == [120, 100, 105, 103, 105, 116]) = false) (n6 : (n.toList == [98, 108, 97, 110, 107]) = false) (n7 : (n.toList == [115, 112, 97, 99, 101]) = false) (n8 : (n.toList == [99, 110, 116, 114, 108]) = false) (n9 : (n.toList == [112, 117, 110, 99, 116]) = false) (n10 : (n.toList == [103, 114, 97, 112, 104]) = true) (w : World) : Calls Tryz.prog 144 #[.string n] w fun e w' => e = .returned (.tuple #[SV cGraph, .bool true]) ∧ Below w.heap.size w w' := by
  go_enter Tryz.func144, Tryz.ntmps144
  go_wp2_with fail
  refine (graph_any _).mono ?_
  rintro e w1 ⟨rfl, hb1⟩
  have c1 : ∀ o, w1.cell? ⟨w.heap.size, o, none⟩ = _ := fun o => hb1.cell (p := ⟨w.heap.size, o, none⟩) (by simp; try omega)
  have f1 : ∀ o, w1.frozen? ⟨w.heap.size, o, none⟩ = _ := fun o => hb1.frozen (p := ⟨w.heap.size, o, none⟩) (by simp; try omega)
  have hz1 : w.heap.size < w1.heap.size := by have := hb1.size; simp at this; omega
  have B1 : Below w.heap.size w w1 := ((Below.refl _ _).alloc (Nat.le_refl _) _).trans (hb1.mono (by simp))
  go_wp2_with fail
  refine bodyPost_ret (v := .tuple #[SV cGraph, .bool true]) (by simp [results, Tryz.results144, go_sem, c1]) rfl ⟨rfl, ?_⟩
  repeat (first | exact B1 | refine Below.drew ?_ | refine Below.setCell ?_ (by simp) _)
set_option maxHeartbeats 1000000 in
theorem named_print (n : ByteArray) (n0 : (n.toList == [117, 112, 112, 101, 114]) = false) (n1 : (n.toList == [108, 111, 119, 101, 114]) = false) (n2 : (n.toList == [97, 108, 112, 104, 97]) = false) (n3 : (n.toList == [100, 105, 103, 105, 116]) = false) (n4 : (n.toList == [97, 108, 110, 117, 109]) = false) (n5 : (n.toList == [120, 100, 105, 103, 105, 116]) = false) (n6 : (n.toList == [98, 108, 97, 110, 107]) = false) (n7 : (n.toList == [115, 112, 97, 99, 101]) = false) (n8 : (n.toList == [99, 110, 116, 114, 108]) = false) (n9 : (n.toList == [112, 117, 110, 99, 116]) = false) (n10 : (n.toList == [103, 114, 97, 112, 104]) = false) (n11 : (n.toList == [112, 114, 105, 110, 116]) = true) (w : World) : Calls Tryz.prog 144 #[.string n] w fun e w' => e = .returned (.tuple #[SV cPrint, .bool true]) ∧ Below w.heap.size w w' := by
  have ho := fun g n cap w => of_any g n cap [32] w
  rw [show setOf [32] = cOne32 from rfl] at ho
  have h1 := or_any cGraph cOne32
  rw [show cGraph ||| cOne32 = cPrint from rfl] at h1
  go_enter Tryz.func144, Tryz.ntmps144
  go_wp2_with fail
  refine (graph_any _).mono ?_
  rintro e w1 ⟨rfl, hb1⟩
  have c1 : ∀ o, w1.cell? ⟨w.heap.size, o, none⟩ = _ := fun o => hb1.cell (p := ⟨w.heap.size, o, none⟩) (by simp; try omega)
  have f1 : ∀ o, w1.frozen? ⟨w.heap.size, o, none⟩ = _ := fun o => hb1.frozen (p := ⟨w.heap.size, o, none⟩) (by simp; try omega)
  have hz1 : w.heap.size < w1.heap.size := by have := hb1.size; simp at this; omega
  have B1 : Below w.heap.size w w1 := ((Below.refl _ _).alloc (Nat.le_refl _) _).trans (hb1.mono (by simp))
  go_wp2_with fail
  refine (ho _ _ _ _ (bytesAt_new [32] (by decide) (by decide) rfl (by simp) rfl (by decide))).mono ?_
  rintro e w2 ⟨rfl, hb2⟩
  have c2 : ∀ o, w2.cell? ⟨w.heap.size, o, none⟩ = _ := fun o => hb2.cell (p := ⟨w.heap.size, o, none⟩) (by simp; omega)
  have f2 : ∀ o, w2.frozen? ⟨w.heap.size, o, none⟩ = _ := fun o => hb2.frozen (p := ⟨w.heap.size, o, none⟩) (by simp; omega)
  simp only [cell_alloc_old hz1, frozen_alloc_old hz1] at c2 f2
  have hz2 : w.heap.size < w2.heap.size := by have := hb2.size; simp at this; omega
  have B2 : Below w.heap.size w w2 := (B1.alloc (by omega) _).trans (hb2.mono (by simp; omega))
  go_wp2_with fail
  refine (h1 _).mono ?_
  rintro e w3 ⟨rfl, hb3⟩
  have c3 : ∀ o, w3.cell? ⟨w.heap.size, o, none⟩ = w2.cell? ⟨w.heap.size, o, none⟩ := fun o => hb3.cell (p := ⟨w.heap.size, o, none⟩) hz2
  have f3 : ∀ o, w3.frozen? ⟨w.heap.size, o, none⟩ = w2.frozen? ⟨w.heap.size, o, none⟩ := fun o => hb3.frozen (p := ⟨w.heap.size, o, none⟩) hz2
  have hz3 : w.heap.size < w3.heap.size := by have := hb3.size; omega
  have B3 : Below w.heap.size w w3 := B2.trans (hb3.mono (by omega))
  go_wp2_with fail
  refine bodyPost_ret (v := .tuple #[SV cPrint, .bool true]) (by simp [results, Tryz.results144, go_sem, c1, c2, c3]) rfl ⟨rfl, ?_⟩
  repeat (first | exact B3 | refine Below.drew ?_ | refine Below.setCell ?_ (by simp) _)
theorem named_none (n : ByteArray) (n0 : (n.toList == [117, 112, 112, 101, 114]) = false) (n1 : (n.toList == [108, 111, 119, 101, 114]) = false) (n2 : (n.toList == [97, 108, 112, 104, 97]) = false) (n3 : (n.toList == [100, 105, 103, 105, 116]) = false) (n4 : (n.toList == [97, 108, 110, 117, 109]) = false) (n5 : (n.toList == [120, 100, 105, 103, 105, 116]) = false) (n6 : (n.toList == [98, 108, 97, 110, 107]) = false) (n7 : (n.toList == [115, 112, 97, 99, 101]) = false) (n8 : (n.toList == [99, 110, 116, 114, 108]) = false) (n9 : (n.toList == [112, 117, 110, 99, 116]) = false) (n10 : (n.toList == [103, 114, 97, 112, 104]) = false) (n11 : (n.toList == [112, 114, 105, 110, 116]) = false) (w : World) : Calls Tryz.prog 144 #[.string n] w fun e w' => e = .returned (.tuple #[SV cNone, .bool false]) ∧ Below w.heap.size w w' := by
  go_enter Tryz.func144, Tryz.ntmps144
  go_wp2_with fail
  refine bodyPost_ret (v := .tuple #[SV cNone, .bool false]) (by simp [results, Tryz.results144, go_sem, word_none]) rfl ⟨rfl, ?_⟩
  repeat (first | exact Below.refl _ _ | refine Below.alloc ?_ (by simp; try omega) _ | refine Below.drew ?_ | refine Below.setCell ?_ (by simp) _)
/-- the class of a name -/
def classOf (l : List UInt8) : BitVec 256 × Bool :=
  if l == [117, 112, 112, 101, 114] then (cUpper, true) else
  if l == [108, 111, 119, 101, 114] then (cLower, true) else
  if l == [97, 108, 112, 104, 97] then (cAlpha, true) else
  if l == [100, 105, 103, 105, 116] then (cDigit, true) else
  if l == [97, 108, 110, 117, 109] then (cAlnum, true) else
  if l == [120, 100, 105, 103, 105, 116] then (cXdigit, true) else
  if l == [98, 108, 97, 110, 107] then (cBlank, true) else
  if l == [115, 112, 97, 99, 101] then (cSpace, true) else
  if l == [99, 110, 116, 114, 108] then (cCntrl, true) else
  if l == [112, 117, 110, 99, 116] then (cPunct, true) else
  if l == [103, 114, 97, 112, 104] then (cGraph, true) else
  if l == [112, 114, 105, 110, 116] then (cPrint, true) else
  (cNone, false)
theorem named_any (n : ByteArray) (w : World) : Calls Tryz.prog 144 #[.string n] w fun e w' => e = .returned (.tuple #[SV (classOf n.toList).1, .bool (classOf n.toList).2]) ∧ Below w.heap.size w w' := by
  unfold classOf
  by_cases n0 : (n.toList == [117, 112, 112, 101, 114]) = true
  · simp only [n0, if_true]; exact named_upper n  n0 w
  replace n0 : (n.toList == [117, 112, 112, 101, 114]) = false := by simpa using n0
  simp only [n0, Bool.false_eq_true, if_false]
  by_cases n1 : (n.toList == [108, 111, 119, 101, 114]) = true
  · simp only [n1, if_true]; exact named_lower n n0 n1 w
  replace n1 : (n.toList == [108, 111, 119, 101, 114]) = false := by simpa using n1
  simp only [n1, Bool.false_eq_true, if_false]
  by_cases n2 : (n.toList == [97, 108, 112, 104, 97]) = true
  · simp only [n2, if_true]; exact named_alpha n n0 n1 n2 w
  replace n2 : (n.toList == [97, 108, 112, 104, 97]) = false := by simpa using n2
  simp only [n2, Bool.false_eq_true, if_false]
  by_cases n3 : (n.toList == [100, 105, 103, 105, 116]) = true
  · simp only [n3, if_true]; exact named_digit n n0 n1 n2 n3 w
  replace n3 : (n.toList == [100, 105, 103, 105, 116]) = false := by simpa using n3
  simp only [n3, Bool.false_eq_true, if_false]
  by_cases n4 : (n.toList == [97, 108, 110, 117, 109]) = true
  · simp only [n4, if_true]; exact named_alnum n n0 n1 n2 n3 n4 w
  replace n4 : (n.toList == [97, 108, 110, 117, 109]) = false := by simpa using n4
  simp only [n4, Bool.false_eq_true, if_false]
  by_cases n5 : (n.toList == [120, 100, 105, 103, 105, 116]) = true
  · simp only [n5, if_true]; exact named_xdigit n n0 n1 n2 n3 n4 n5 w
  replace n5 : (n.toList == [120, 100, 105, 103, 105, 116]) = false := by simpa using n5
  simp only [n5, Bool.false_eq_true, if_false]
  by_cases n6 : (n.toList == [98, 108, 97, 110, 107]) = true
  · simp only [n6, if_true]; exact named_blank n n0 n1 n2 n3 n4 n5 n6 w
  replace n6 : (n.toList == [98, 108, 97, 110, 107]) = false := by simpa using n6
  simp only [n6, Bool.false_eq_true, if_false]
  by_cases n7 : (n.toList == [115, 112, 97, 99, 101]) = true
  · simp only [n7, if_true]; exact named_space n n0 n1 n2 n3 n4 n5 n6 n7 w
  replace n7 : (n.toList == [115, 112, 97, 99, 101]) = false := by simpa using n7
  simp only [n7, Bool.false_eq_true, if_false]
  by_cases n8 : (n.toList == [99, 110, 116, 114, 108]) = true
  · simp only [n8, if_true]; exact named_cntrl n n0 n1 n2 n3 n4 n5 n6 n7 n8 w
  replace n8 : (n.toList == [99, 110, 116, 114, 108]) = false := by simpa using n8
  simp only [n8, Bool.false_eq_true, if_false]
  by_cases n9 : (n.toList == [112, 117, 110, 99, 116]) = true
  · simp only [n9, if_true]; exact named_punct n n0 n1 n2 n3 n4 n5 n6 n7 n8 n9 w
  replace n9 : (n.toList == [112, 117, 110, 99, 116]) = false := by simpa using n9
  simp only [n9, Bool.false_eq_true, if_false]
  by_cases n10 : (n.toList == [103, 114, 97, 112, 104]) = true
  · simp only [n10, if_true]; exact named_graph n n0 n1 n2 n3 n4 n5 n6 n7 n8 n9 n10 w
  replace n10 : (n.toList == [103, 114, 97, 112, 104]) = false := by simpa using n10
  simp only [n10, Bool.false_eq_true, if_false]
  by_cases n11 : (n.toList == [112, 114, 105, 110, 116]) = true
  · simp only [n11, if_true]; exact named_print n n0 n1 n2 n3 n4 n5 n6 n7 n8 n9 n10 n11 w
  replace n11 : (n.toList == [112, 114, 105, 110, 116]) = false := by simpa using n11
  simp only [n11, Bool.false_eq_true, if_false]
  exact named_none n n0 n1 n2 n3 n4 n5 n6 n7 n8 n9 n10 n11 w
end Go.Proofs.YtlgpbgcheeaalaaGreatDoor
