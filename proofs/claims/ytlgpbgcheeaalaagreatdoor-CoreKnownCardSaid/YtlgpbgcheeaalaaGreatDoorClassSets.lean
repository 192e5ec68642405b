/- The walks of package class's own sets, and the classes' names. -/
import Derived.Test.YtlgpbgcheeaalaaGreatDoorSetBuild
namespace Go.Proofs.YtlgpbgcheeaalaaGreatDoor
set_option maxRecDepth 100000
open Go.RowKit

def cNone : BitVec 256 := 0
theorem word_none (i : Nat) : word cNone i = 0 := word_zero i
def cUpper : BitVec 256 := setOf (upTo 65 90)
def cLower : BitVec 256 := setOf (upTo 97 122)
def cDigit : BitVec 256 := setOf (upTo 48 57)
def cAlpha : BitVec 256 := cUpper ||| cLower
def cAlnum : BitVec 256 := cAlpha ||| cDigit
def cSeen : BitVec 256 := setOf (upTo 33 126)
def cPunct : BitVec 256 := cSeen &&& ~~~cAlnum
def cGraph : BitVec 256 := cAlnum ||| cPunct
def cXA : BitVec 256 := setOf (upTo 65 70)
def cXa : BitVec 256 := setOf (upTo 97 102)
def cXd : BitVec 256 := cDigit ||| cXA
def cXdigit : BitVec 256 := cXd ||| cXa
def cBlank : BitVec 256 := setOf [32, 9]
def cWhite : BitVec 256 := setOf (upTo 9 13)
def cOne32 : BitVec 256 := setOf [32]
def cSpace : BitVec 256 := cWhite ||| cOne32
def cLow : BitVec 256 := setOf (upTo 0 31)
def cOne127 : BitVec 256 := setOf [127]
def cCntrl : BitVec 256 := cLow ||| cOne127
def cPrint : BitVec 256 := cGraph ||| cOne32

theorem upper_any (w : World) : Calls Tryz.prog 148 #[] w fun e w' => e = .returned (SV cUpper) ∧ Below w.heap.size w w' := by
  have hr65 := range_lit 65 90
  rw [show setOf (upTo 65 90) = cUpper from rfl] at hr65
  go_enter Tryz.func148, Tryz.ntmps148
  go_wp2_with fail
  refine (hr65 _ _ (by omega) (by omega) (by decide) (by decide) _).mono ?_
  rintro e w1 ⟨rfl, hb1⟩
  have c1 : ∀ o, w1.cell? ⟨w.heap.size, o, none⟩ = _ := fun o => hb1.cell (p := ⟨w.heap.size, o, none⟩) (by simp; try omega)
  have f1 : ∀ o, w1.frozen? ⟨w.heap.size, o, none⟩ = _ := fun o => hb1.frozen (p := ⟨w.heap.size, o, none⟩) (by simp; try omega)
  have hz1 : w.heap.size < w1.heap.size := by have := hb1.size; simp at this; omega
  have B1 : Below w.heap.size w w1 := ((Below.refl _ _).alloc (Nat.le_refl _) _).trans (hb1.mono (by simp))
  go_wp2_with fail
  refine bodyPost_ret (v := SV cUpper) (by simp [results, Tryz.results148, go_sem, c1]) rfl ⟨rfl, ?_⟩
  repeat (first | exact B1 | refine Below.drew ?_ | refine Below.setCell ?_ (by simp) _)
theorem lower_any (w : World) : Calls Tryz.prog 149 #[] w fun e w' => e = .returned (SV cLower) ∧ Below w.heap.size w w' := by
  have hr97 := range_lit 97 122
  rw [show setOf (upTo 97 122) = cLower from rfl] at hr97
  go_enter Tryz.func149, Tryz.ntmps149
  go_wp2_with fail
  refine (hr97 _ _ (by omega) (by omega) (by decide) (by decide) _).mono ?_
  rintro e w1 ⟨rfl, hb1⟩
  have c1 : ∀ o, w1.cell? ⟨w.heap.size, o, none⟩ = _ := fun o => hb1.cell (p := ⟨w.heap.size, o, none⟩) (by simp; try omega)
  have f1 : ∀ o, w1.frozen? ⟨w.heap.size, o, none⟩ = _ := fun o => hb1.frozen (p := ⟨w.heap.size, o, none⟩) (by simp; try omega)
  have hz1 : w.heap.size < w1.heap.size := by have := hb1.size; simp at this; omega
  have B1 : Below w.heap.size w w1 := ((Below.refl _ _).alloc (Nat.le_refl _) _).trans (hb1.mono (by simp))
  go_wp2_with fail
  refine bodyPost_ret (v := SV cLower) (by simp [results, Tryz.results149, go_sem, c1]) rfl ⟨rfl, ?_⟩
  repeat (first | exact B1 | refine Below.drew ?_ | refine Below.setCell ?_ (by simp) _)
theorem digit_any (w : World) : Calls Tryz.prog 151 #[] w fun e w' => e = .returned (SV cDigit) ∧ Below w.heap.size w w' := by
  have hr48 := range_lit 48 57
  rw [show setOf (upTo 48 57) = cDigit from rfl] at hr48
  go_enter Tryz.func151, Tryz.ntmps151
  go_wp2_with fail
  refine (hr48 _ _ (by omega) (by omega) (by decide) (by decide) _).mono ?_
  rintro e w1 ⟨rfl, hb1⟩
  have c1 : ∀ o, w1.cell? ⟨w.heap.size, o, none⟩ = _ := fun o => hb1.cell (p := ⟨w.heap.size, o, none⟩) (by simp; try omega)
  have f1 : ∀ o, w1.frozen? ⟨w.heap.size, o, none⟩ = _ := fun o => hb1.frozen (p := ⟨w.heap.size, o, none⟩) (by simp; try omega)
  have hz1 : w.heap.size < w1.heap.size := by have := hb1.size; simp at this; omega
  have B1 : Below w.heap.size w w1 := ((Below.refl _ _).alloc (Nat.le_refl _) _).trans (hb1.mono (by simp))
  go_wp2_with fail
  refine bodyPost_ret (v := SV cDigit) (by simp [results, Tryz.results151, go_sem, c1]) rfl ⟨rfl, ?_⟩
  repeat (first | exact B1 | refine Below.drew ?_ | refine Below.setCell ?_ (by simp) _)
theorem alpha_any (w : World) : Calls Tryz.prog 150 #[] w fun e w' => e = .returned (SV cAlpha) ∧ Below w.heap.size w w' := by
  have ho := or_any cUpper cLower
  rw [show cUpper ||| cLower = cAlpha from rfl] at ho
  go_enter Tryz.func150, Tryz.ntmps150
  go_wp2_with fail
  refine (upper_any _).mono ?_
  rintro e w1 ⟨rfl, hb1⟩
  have c1 : ∀ o, w1.cell? ⟨w.heap.size, o, none⟩ = _ := fun o => hb1.cell (p := ⟨w.heap.size, o, none⟩) (by simp; try omega)
  have f1 : ∀ o, w1.frozen? ⟨w.heap.size, o, none⟩ = _ := fun o => hb1.frozen (p := ⟨w.heap.size, o, none⟩) (by simp; try omega)
  have hz1 : w.heap.size < w1.heap.size := by have := hb1.size; simp at this; omega
  have B1 : Below w.heap.size w w1 := ((Below.refl _ _).alloc (Nat.le_refl _) _).trans (hb1.mono (by simp))
  go_wp2_with fail
  refine (lower_any _).mono ?_
  rintro e w2 ⟨rfl, hb2⟩
  have c2 : ∀ o, w2.cell? ⟨w.heap.size, o, none⟩ = w1.cell? ⟨w.heap.size, o, none⟩ := fun o => hb2.cell (p := ⟨w.heap.size, o, none⟩) hz1
  have f2 : ∀ o, w2.frozen? ⟨w.heap.size, o, none⟩ = w1.frozen? ⟨w.heap.size, o, none⟩ := fun o => hb2.frozen (p := ⟨w.heap.size, o, none⟩) hz1
  have hz2 : w.heap.size < w2.heap.size := by have := hb2.size; omega
  have B2 : Below w.heap.size w w2 := B1.trans (hb2.mono (by omega))
  go_wp2_with fail
  refine (ho _).mono ?_
  rintro e w3 ⟨rfl, hb3⟩
  have c3 : ∀ o, w3.cell? ⟨w.heap.size, o, none⟩ = w2.cell? ⟨w.heap.size, o, none⟩ := fun o => hb3.cell (p := ⟨w.heap.size, o, none⟩) hz2
  have f3 : ∀ o, w3.frozen? ⟨w.heap.size, o, none⟩ = w2.frozen? ⟨w.heap.size, o, none⟩ := fun o => hb3.frozen (p := ⟨w.heap.size, o, none⟩) hz2
  have hz3 : w.heap.size < w3.heap.size := by have := hb3.size; omega
  have B3 : Below w.heap.size w w3 := B2.trans (hb3.mono (by omega))
  go_wp2_with fail
  refine bodyPost_ret (v := SV cAlpha) (by simp [results, Tryz.results150, go_sem, c1, c2, c3]) rfl ⟨rfl, ?_⟩
  repeat (first | exact B3 | refine Below.drew ?_ | refine Below.setCell ?_ (by simp) _)
theorem alnum_any (w : World) : Calls Tryz.prog 152 #[] w fun e w' => e = .returned (SV cAlnum) ∧ Below w.heap.size w w' := by
  have ho := or_any cAlpha cDigit
  rw [show cAlpha ||| cDigit = cAlnum from rfl] at ho
  go_enter Tryz.func152, Tryz.ntmps152
  go_wp2_with fail
  refine (alpha_any _).mono ?_
  rintro e w1 ⟨rfl, hb1⟩
  have c1 : ∀ o, w1.cell? ⟨w.heap.size, o, none⟩ = _ := fun o => hb1.cell (p := ⟨w.heap.size, o, none⟩) (by simp; try omega)
  have f1 : ∀ o, w1.frozen? ⟨w.heap.size, o, none⟩ = _ := fun o => hb1.frozen (p := ⟨w.heap.size, o, none⟩) (by simp; try omega)
  have hz1 : w.heap.size < w1.heap.size := by have := hb1.size; simp at this; omega
  have B1 : Below w.heap.size w w1 := ((Below.refl _ _).alloc (Nat.le_refl _) _).trans (hb1.mono (by simp))
  go_wp2_with fail
  refine (digit_any _).mono ?_
  rintro e w2 ⟨rfl, hb2⟩
  have c2 : ∀ o, w2.cell? ⟨w.heap.size, o, none⟩ = w1.cell? ⟨w.heap.size, o, none⟩ := fun o => hb2.cell (p := ⟨w.heap.size, o, none⟩) hz1
  have f2 : ∀ o, w2.frozen? ⟨w.heap.size, o, none⟩ = w1.frozen? ⟨w.heap.size, o, none⟩ := fun o => hb2.frozen (p := ⟨w.heap.size, o, none⟩) hz1
  have hz2 : w.heap.size < w2.heap.size := by have := hb2.size; omega
  have B2 : Below w.heap.size w w2 := B1.trans (hb2.mono (by omega))
  go_wp2_with fail
  refine (ho _).mono ?_
  rintro e w3 ⟨rfl, hb3⟩
  have c3 : ∀ o, w3.cell? ⟨w.heap.size, o, none⟩ = w2.cell? ⟨w.heap.size, o, none⟩ := fun o => hb3.cell (p := ⟨w.heap.size, o, none⟩) hz2
  have f3 : ∀ o, w3.frozen? ⟨w.heap.size, o, none⟩ = w2.frozen? ⟨w.heap.size, o, none⟩ := fun o => hb3.frozen (p := ⟨w.heap.size, o, none⟩) hz2
  have hz3 : w.heap.size < w3.heap.size := by have := hb3.size; omega
  have B3 : Below w.heap.size w w3 := B2.trans (hb3.mono (by omega))
  go_wp2_with fail
  refine bodyPost_ret (v := SV cAlnum) (by simp [results, Tryz.results152, go_sem, c1, c2, c3]) rfl ⟨rfl, ?_⟩
  repeat (first | exact B3 | refine Below.drew ?_ | refine Below.setCell ?_ (by simp) _)
theorem punct_any (w : World) : Calls Tryz.prog 153 #[] w fun e w' => e = .returned (SV cPunct) ∧ Below w.heap.size w w' := by
  have hr33 := range_lit 33 126
  rw [show setOf (upTo 33 126) = cSeen from rfl] at hr33
  have ho := minus_any cSeen cAlnum
  rw [show cSeen &&& ~~~cAlnum = cPunct from rfl] at ho
  go_enter Tryz.func153, Tryz.ntmps153
  go_wp2_with fail
  refine (hr33 _ _ (by omega) (by omega) (by decide) (by decide) _).mono ?_
  rintro e w1 ⟨rfl, hb1⟩
  have c1 : ∀ o, w1.cell? ⟨w.heap.size, o, none⟩ = _ := fun o => hb1.cell (p := ⟨w.heap.size, o, none⟩) (by simp; try omega)
  have f1 : ∀ o, w1.frozen? ⟨w.heap.size, o, none⟩ = _ := fun o => hb1.frozen (p := ⟨w.heap.size, o, none⟩) (by simp; try omega)
  have hz1 : w.heap.size < w1.heap.size := by have := hb1.size; simp at this; omega
  have B1 : Below w.heap.size w w1 := ((Below.refl _ _).alloc (Nat.le_refl _) _).trans (hb1.mono (by simp))
  go_wp2_with fail
  refine (alnum_any _).mono ?_
  rintro e w2 ⟨rfl, hb2⟩
  have c2 : ∀ o, w2.cell? ⟨w.heap.size, o, none⟩ = w1.cell? ⟨w.heap.size, o, none⟩ := fun o => hb2.cell (p := ⟨w.heap.size, o, none⟩) hz1
  have f2 : ∀ o, w2.frozen? ⟨w.heap.size, o, none⟩ = w1.frozen? ⟨w.heap.size, o, none⟩ := fun o => hb2.frozen (p := ⟨w.heap.size, o, none⟩) hz1
  have hz2 : w.heap.size < w2.heap.size := by have := hb2.size; omega
  have B2 : Below w.heap.size w w2 := B1.trans (hb2.mono (by omega))
  go_wp2_with fail
  refine (ho _).mono ?_
  rintro e w3 ⟨rfl, hb3⟩
  have c3 : ∀ o, w3.cell? ⟨w.heap.size, o, none⟩ = w2.cell? ⟨w.heap.size, o, none⟩ := fun o => hb3.cell (p := ⟨w.heap.size, o, none⟩) hz2
  have f3 : ∀ o, w3.frozen? ⟨w.heap.size, o, none⟩ = w2.frozen? ⟨w.heap.size, o, none⟩ := fun o => hb3.frozen (p := ⟨w.heap.size, o, none⟩) hz2
  have hz3 : w.heap.size < w3.heap.size := by have := hb3.size; omega
  have B3 : Below w.heap.size w w3 := B2.trans (hb3.mono (by omega))
  go_wp2_with fail
  refine bodyPost_ret (v := SV cPunct) (by simp [results, Tryz.results153, go_sem, c1, c2, c3]) rfl ⟨rfl, ?_⟩
  repeat (first | exact B3 | refine Below.drew ?_ | refine Below.setCell ?_ (by simp) _)
theorem graph_any (w : World) : Calls Tryz.prog 154 #[] w fun e w' => e = .returned (SV cGraph) ∧ Below w.heap.size w w' := by
  have ho := or_any cAlnum cPunct
  rw [show cAlnum ||| cPunct = cGraph from rfl] at ho
  go_enter Tryz.func154, Tryz.ntmps154
  go_wp2_with fail
  refine (alnum_any _).mono ?_
  rintro e w1 ⟨rfl, hb1⟩
  have c1 : ∀ o, w1.cell? ⟨w.heap.size, o, none⟩ = _ := fun o => hb1.cell (p := ⟨w.heap.size, o, none⟩) (by simp; try omega)
  have f1 : ∀ o, w1.frozen? ⟨w.heap.size, o, none⟩ = _ := fun o => hb1.frozen (p := ⟨w.heap.size, o, none⟩) (by simp; try omega)
  have hz1 : w.heap.size < w1.heap.size := by have := hb1.size; simp at this; omega
  have B1 : Below w.heap.size w w1 := ((Below.refl _ _).alloc (Nat.le_refl _) _).trans (hb1.mono (by simp))
  go_wp2_with fail
  refine (punct_any _).mono ?_
  rintro e w2 ⟨rfl, hb2⟩
  have c2 : ∀ o, w2.cell? ⟨w.heap.size, o, none⟩ = w1.cell? ⟨w.heap.size, o, none⟩ := fun o => hb2.cell (p := ⟨w.heap.size, o, none⟩) hz1
  have f2 : ∀ o, w2.frozen? ⟨w.heap.size, o, none⟩ = w1.frozen? ⟨w.heap.size, o, none⟩ := fun o => hb2.frozen (p := ⟨w.heap.size, o, none⟩) hz1
  have hz2 : w.heap.size < w2.heap.size := by have := hb2.size; omega
  have B2 : Below w.heap.size w w2 := B1.trans (hb2.mono (by omega))
  go_wp2_with fail
  refine (ho _).mono ?_
  rintro e w3 ⟨rfl, hb3⟩
  have c3 : ∀ o, w3.cell? ⟨w.heap.size, o, none⟩ = w2.cell? ⟨w.heap.size, o, none⟩ := fun o => hb3.cell (p := ⟨w.heap.size, o, none⟩) hz2
  have f3 : ∀ o, w3.frozen? ⟨w.heap.size, o, none⟩ = w2.frozen? ⟨w.heap.size, o, none⟩ := fun o => hb3.frozen (p := ⟨w.heap.size, o, none⟩) hz2
  have hz3 : w.heap.size < w3.heap.size := by have := hb3.size; omega
  have B3 : Below w.heap.size w w3 := B2.trans (hb3.mono (by omega))
  go_wp2_with fail
  refine bodyPost_ret (v := SV cGraph) (by simp [results, Tryz.results154, go_sem, c1, c2, c3]) rfl ⟨rfl, ?_⟩
  repeat (first | exact B3 | refine Below.drew ?_ | refine Below.setCell ?_ (by simp) _)
end Go.Proofs.YtlgpbgcheeaalaaGreatDoor
