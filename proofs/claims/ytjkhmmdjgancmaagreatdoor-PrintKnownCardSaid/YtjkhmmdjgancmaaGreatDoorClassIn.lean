/- The walks of class.Names, In and Whole. -/
import Derived.Test.YtjkhmmdjgancmaaGreatDoorClassNamed
import Derived.Test.YtjkhmmdjgancmaaGreatDoorEq
namespace Go.Proofs.YtjkhmmdjgancmaaGreatDoor
set_option maxRecDepth 100000
open Go.RowKit

/-- a string as the program holds it -/
def strv (l : List UInt8) : Value := .string ⟨l.toArray⟩
/-- the names, in order -/
def nameBytes : List (List UInt8) := [[97, 108, 110, 117, 109], [97, 108, 112, 104, 97], [98, 108, 97, 110, 107], [99, 110, 116, 114, 108], [100, 105, 103, 105, 116], [103, 114, 97, 112, 104],
  [108, 111, 119, 101, 114], [112, 114, 105, 110, 116], [112, 117, 110, 99, 116], [115, 112, 97, 99, 101], [117, 112, 112, 101, 114], [120, 100, 105, 103, 105, 116]]
def nameOf (j : Nat) : List UInt8 := nameBytes.getD j []
theorem nameBytes_get (j : Nat) (h : j < 12) : nameBytes[j]? = some (nameOf j) := by
  have h' : j < nameBytes.length := h
  rw [nameOf, List.getD_eq_getElem?_getD, List.getElem?_eq_getElem h']; rfl
theorem name_class (j : Nat) (h : j < 12) : (classOf (nameOf j)).2 = true := by
  have : ∀ j, j < 12 → (classOf (nameOf j)).2 = true := by decide
  exact this j h
theorem strs_new (w : World) {O : Obj} {t : TypeId} (l : List (List UInt8)) (hO : O = .cells (l.map strv).toArray t (0, 0)) (g : Nat) (hg : g = w.heap.size) (j : Nat) (hj : j < l.length) :
    (w.alloc O).cell? ⟨g, j, none⟩ = some (strv (l.getD j [])) := by
  subst hO hg
  rw [World.cell?_alloc_at _ _ _ _ rfl]
  simp [List.getElem?_map, List.getElem?_eq_getElem hj, List.getD_eq_getElem?_getD]
/-- the call returns the names, in new memory -/
def NamesRow (w : World) (e : Ending) (w' : World) : Prop :=
  ∃ g, e = .returned (.slice (some ⟨g, 0, none⟩) 12 12) ∧ w.heap.size ≤ g ∧ g < w'.heap.size ∧ (∀ j, j < 12 → w'.cell? ⟨g, j, none⟩ = some (strv (nameOf j))) ∧ Below w.heap.size w w'
theorem names_any (w : World) : Calls Tryz.prog 35 #[] w (NamesRow w) := by
  go_enter Tryz.func35, Tryz.ntmps35
  go_wp2
  go_ret
  exact ⟨w.heap.size, rfl, Nat.le_refl _, by simp, fun j hj => strs_new w nameBytes rfl _ rfl j hj, (Below.refl _ _).alloc (Nat.le_refl _) _⟩
theorem named_str (l : List UInt8) (w : World) : Calls Tryz.prog 36 #[strv l] w fun e w' => e = .returned (.tuple #[SV (classOf l).1, .bool (classOf l).2]) ∧ Below w.heap.size w w' := by
  have := named_any ⟨l.toArray⟩ w
  rw [ByteArray.toList_mk] at this
  exact this
/-- the first name whose class is s -/
def wholeOf (s : BitVec 256) : List UInt8 × Bool := match nameBytes.find? fun l => decide ((classOf l).1 = s) with | some l => (l, true) | none => ([], false)
theorem wholeOf_hit (s : BitVec 256) (k : Nat) (hk : k < 12) (h0 : ∀ j, j < k → (classOf (nameOf j)).1 ≠ s) (h1 : (classOf (nameOf k)).1 = s) : wholeOf s = (nameOf k, true) := by
  have : nameBytes.find? (fun l => decide ((classOf l).1 = s)) = some (nameOf k) := by
    rw [List.find?_eq_some_iff_getElem]
    have hk' : k < nameBytes.length := hk
    have e : ∀ j (hj : j < nameBytes.length), nameBytes[j] = nameOf j := fun j hj => by
      have := nameBytes_get j hj; rw [List.getElem?_eq_getElem hj] at this; exact Option.some.inj this
    refine ⟨by simpa using h1, k, hk', e k hk', fun j hj => ?_⟩
    rw [e j (by omega)]
    simpa using h0 j hj
  rw [wholeOf, this]
theorem wholeOf_miss (s : BitVec 256) (h0 : ∀ j, j < 12 → (classOf (nameOf j)).1 ≠ s) : wholeOf s = ([], false) := by
  have : nameBytes.find? (fun l => decide ((classOf l).1 = s)) = none := by
    rw [List.find?_eq_none]
    intro x hx
    obtain ⟨j, hj, rfl⟩ := List.getElem_of_mem hx
    have := nameBytes_get j hj; rw [List.getElem?_eq_getElem hj] at this
    rw [Option.some.inj this]
    simpa using h0 j hj
  rw [wholeOf, this]
set_option maxHeartbeats 2000000 in
theorem whole_any (s : BitVec 256) (w : World) : Calls Tryz.prog 21 #[SV s] w fun e w' => e = .returned (.tuple #[strv (wholeOf s).1, .bool (wholeOf s).2]) ∧ Below w.heap.size w w' := by
  go_enter Tryz.func21, Tryz.ntmps21
  go_wp2_with fail
  refine (names_any _).mono ?_
  rintro e w1 ⟨g, rfl, hg0, hg1, hcells, hb1⟩
  simp at hg0
  have hb1' : Below w.heap.size w w1 := ((Below.refl _ _).alloc (Nat.le_refl _) _).trans (hb1.mono (by simp))
  have hc1 : ∀ o, w1.cell? ⟨w.heap.size, o, none⟩ = _ := fun o => hb1.cell (p := ⟨w.heap.size, o, none⟩) (by simp)
  have hz1 : w.heap.size < w1.heap.size := by have := hb1.size; simp at this; omega
  simp at hc1
  clear hb1
  go_wp2_with fail
  go_loopw [10] (fun i wr => ∃ k : Nat, k ≤ 12 ∧ i = .int .i64 k ∧ (∀ j, j < k → (classOf (nameOf j)).1 ≠ s) ∧ Below w1.heap.size w1 wr) (fun i _ => 12 - (intOf i).toNat)
  case atStart => exact ⟨0, by omega, rfl, fun j hj => by omega, Below.refl _ _⟩
  case round =>
    obtain ⟨k, hk, rfl, hne, hbr⟩ := hrel
    by_cases hkl : k < 12
    · have hd : decide ((k : Int) < 12) = true := by simp; omega
      have hcell : wr.cell? ⟨g, k, none⟩ = some (strv (nameOf k)) := by rw [hbr.cell (p := ⟨g, k, none⟩) hg1]; exact hcells k hkl
      obtain ⟨n, hn⟩ : ∃ n, n = nameOf k := ⟨_, rfl⟩
      have hok := name_class k hkl
      rw [← hn] at hcell hok
      have hnm := named_str n
      rw [hok] at hnm
      obtain ⟨C, hC⟩ : ∃ C, C = (classOf n).1 := ⟨_, rfl⟩
      rw [← hC] at hnm
      have he := eql_set C s
      have hzr := hbr.size
      have hcr : ∀ o, wr.cell? ⟨w.heap.size, o, none⟩ = _ := fun o => (hbr.cell (p := ⟨w.heap.size, o, none⟩) hz1).trans (hc1 o)
      unfold strv at hcell hnm
      have hC' : C = (classOf (nameOf k)).1 := by rw [hC, hn]
      have Hn := Lib.hid hn
      have HC := Lib.hid hC'
      have Hne := Lib.hid hne
      clear hn hC hC' hok hcells hne
      go_wp2_with fail
      refine (hnm _).mono ?_
      rintro e w2 ⟨rfl, hb2⟩
      have hzrw : w.heap.size < wr.heap.size := by omega
      have hc2 : ∀ o, w2.cell? ⟨w.heap.size, o, none⟩ = _ := fun o => (hb2.cell (p := ⟨w.heap.size, o, none⟩) hzrw).trans (hcr o)
      have hz2 : w.heap.size < w2.heap.size := by have := hb2.size; omega
      have hb3 := hbr.trans (hb2.mono hbr.size)
      clear hcell hcr
      by_cases hCs : C = s
      · have hdec : decide (C = s) = true := by simpa using hCs
        rw [hdec] at he
        have hHit := wholeOf_hit s k hkl Hne.out (by rw [← HC.out]; exact hCs)
        have HH := Lib.hid hHit
        clear hHit hCs
        go_wp2_with fail
        go_ret2
        rw [HH.out, ← Hn.out]
        exact ⟨rfl, (hb1'.trans (hb3.mono (by omega))).alloc (by omega) _⟩
      · have hdec : decide (C = s) = false := by simpa using hCs
        rw [hdec] at he
        go_wp2_with fail
        go_roundw
        case rel => exact ⟨k + 1, by omega, by go_num, fun j hj => (by
          by_cases hjk : j < k
          · exact Hne.out j hjk
          · obtain rfl : j = k := by omega
            rw [← HC.out]; exact hCs), hb3.alloc (by have := hb3.size; omega) _⟩
        case measure => simp [intOf]; omega
    · have hd : decide ((k : Int) < 12) = false := by simp; omega
      obtain rfl : k = 12 := by omega
      have hMiss := Lib.hid (wholeOf_miss s hne)
      clear hne hcells
      go_wp2_with fail
      go_ret2
      rw [hMiss.out]
      exact ⟨rfl, hb1'.trans (hbr.mono (by omega))⟩
end Go.Proofs.YtjkhmmdjgancmaaGreatDoor
