/- The walks of class.Names, In and Whole. -/
import Derived.Test.YtgdkopcfkoikjaaClassNamed
import Derived.Test.YtgdkopcfkoikjaaEq
namespace Go.Proofs.Ytgdkopcfkoikjaa
open Go.RowKit

/-- a string as the program holds it -/
def strv (l : List UInt8) : Value := .string ⟨l.toArray⟩
/-- the names, in order -/
def nameBytes : List (List UInt8) := [[97, 108, 110, 117, 109], [97, 108, 112, 104, 97], [98, 108, 97, 110, 107], [99, 110, 116, 114, 108], [100, 105, 103, 105, 116], [103, 114, 97, 112, 104],
  [108, 111, 119, 101, 114], [112, 114, 105, 110, 116], [112, 117, 110, 99, 116], [115, 112, 97, 99, 101], [117, 112, 112, 101, 114], [120, 100, 105, 103, 105, 116]]
def nameOf (j : Nat) : List UInt8 := nameBytes.getD j []
theorem nameBytes_get (j : Nat) (h : j < 12) : nameBytes[j]? = some (nameOf j) := by
  have h' : j < nameBytes.length := h
  rw [nameOf, List.getD_eq_getElem?_getD, List.getElem?_eq_getElem h']; rfl
theorem name_class (j : Nat) (h : j < 12) : (classOf (nameOf j)).2 = true := by
  have : ∀ j, j < 12 → (classOf (nameOf j)).2 = true := by decide
  exact this j h
theorem strs_new (w : World) {O : Obj} {t : TypeId} (l : List (List UInt8)) (hO : O = .cells (l.map strv).toArray t (0, 0)) (g : Nat) (hg : g = w.heap.size) (j : Nat) (hj : j < l.length) :
    (w.alloc O).cell? ⟨g, j, none⟩ = some (strv (l.getD j [])) := by
  subst hO hg
  rw [World.cell?_alloc_at _ _ _ _ rfl]
  simp [List.getElem?_map, List.getElem?_eq_getElem hj, List.getD_eq_getElem?_getD]
/-- the call returns the names, in new memory -/
def NamesRow (w : World) (e : Ending) (w' : World) : Prop :=
  ∃ g, e = .returned (.slice (some ⟨g, 0, none⟩) 12 12) ∧ w.heap.size ≤ g ∧ g < w'.heap.size ∧ (∀ j, j < 12 → w'.cell? ⟨g, j, none⟩ = some (strv (nameOf j))) ∧ Below w.heap.size w w'
theorem names_any (w : World) : Calls Try.prog 7 #[] w (NamesRow w) := by
  go_enter Try.func7, Try.ntmps7
  go_wp2
  go_ret
  exact ⟨w.heap.size, rfl, Nat.le_refl _, by simp, fun j hj => strs_new w nameBytes rfl _ rfl j hj, (Below.refl _ _).alloc (Nat.le_refl _) _⟩
theorem named_str (l : List UInt8) (w : World) : Calls Try.prog 9 #[strv l] w fun e w' => e = .returned (.tuple #[SV (classOf l).1, .bool (classOf l).2]) ∧ Below w.heap.size w w' := by
  have := named_any ⟨l.toArray⟩ w
  rw [ByteArray.toList_mk] at this
  exact this
/-- the first name whose class is s -/
def wholeOf (s : BitVec 256) : List UInt8 × Bool := match nameBytes.find? fun l => decide ((classOf l).1 = s) with | some l => (l, true) | none => ([], false)
theorem wholeOf_hit (s : BitVec 256) (k : Nat) (hk : k < 12) (h0 : ∀ j, j < k → (classOf (nameOf j)).1 ≠ s) (h1 : (classOf (nameOf k)).1 = s) : wholeOf s = (nameOf k, true) := by
  have : nameBytes.find? (fun l => decide ((classOf l).1 = s)) = some (nameOf k) := by
    rw [List.find?_eq_some_iff_getElem]
    have hk' : k < nameBytes.length := hk
    have e : ∀ j (hj : j < nameBytes.length), nameBytes[j] = nameOf j := fun j hj => by
      have := nameBytes_get j hj; rw [List.getElem?_eq_getElem hj] at this; exact Option.some.inj this
    refine ⟨by simpa using h1, k, hk', e k hk', fun j hj => ?_⟩
    rw [e j (by omega)]
    simpa using h0 j hj
  rw [wholeOf, this]
theorem wholeOf_miss (s : BitVec 256) (h0 : ∀ j, j < 12 → (classOf (nameOf j)).1 ≠ s) : wholeOf s = ([], false) := by
  have : nameBytes.find? (fun l => decide ((classOf l).1 = s)) = none := by
    rw [List.find?_eq_none]
    intro x hx
    obtain ⟨j, hj, rfl⟩ := List.getElem_of_mem hx
    have := nameBytes_get j hj; rw [List.getElem?_eq_getElem hj] at this
    rw [Option.some.inj this]
    simpa using h0 j hj
  rw [wholeOf, this]
set_option maxHeartbeats 2000000 in
theorem whole_any (s : BitVec 256) (w : World) : Calls Try.prog 11 #[SV s] w fun e w' => e = .returned (.tuple #[strv (wholeOf s).1, .bool (wholeOf s).2]) ∧ Below w.heap.size w w' := by
  go_enter Try.func11, Try.ntmps11
  go_wp2_with fail
  refine (names_any _).mono ?_
  rintro e w1 ⟨g, rfl, hg0, hg1, hcells, hb1⟩
  simp at hg0
  have hb1' : Below w.heap.size w w1 := ((Below.refl _ _).alloc (Nat.le_refl _) _).trans (hb1.mono (by simp))
  have hc1 : ∀ o, w1.cell? ⟨w.heap.size, o, none⟩ = _ := fun o => hb1.cell (p := ⟨w.heap.size, o, none⟩) (by simp)
  have hz1 : w.heap.size < w1.heap.size := by have := hb1.size; simp at this; omega
  simp at hc1
  clear hb1
  go_wp2_with fail
  go_loopw [10] (fun i wr => ∃ k : Nat, k ≤ 12 ∧ i = .int .i64 k ∧ (∀ j, j < k → (classOf (nameOf j)).1 ≠ s) ∧ Below w1.heap.size w1 wr) (fun i _ => 12 - (intOf i).toNat)
  case atStart => exact ⟨0, by omega, rfl, fun j hj => by omega, Below.refl _ _⟩
  case round =>
    obtain ⟨k, hk, rfl, hne, hbr⟩ := hrel
    by_cases hkl : k < 12
    · have hd : decide ((k : Int) < 12) = true := by simp; omega
      have hcell : wr.cell? ⟨g, k, none⟩ = some (strv (nameOf k)) := by rw [hbr.cell (p := ⟨g, k, none⟩) hg1]; exact hcells k hkl
      obtain ⟨n, hn⟩ : ∃ n, n = nameOf k := ⟨_, rfl⟩
      have hok := name_class k hkl
      rw [← hn] at hcell hok
      have hnm := named_str n
      rw [hok] at hnm
      obtain ⟨C, hC⟩ : ∃ C, C = (classOf n).1 := ⟨_, rfl⟩
      rw [← hC] at hnm
      have he := eql_set C s
      have hzr := hbr.size
      have hcr : ∀ o, wr.cell? ⟨w.heap.size, o, none⟩ = _ := fun o => (hbr.cell (p := ⟨w.heap.size, o, none⟩) hz1).trans (hc1 o)
      unfold strv at hcell hnm
      have hC' : C = (classOf (nameOf k)).1 := by rw [hC, hn]
      have Hn := Lib.hid hn
      have HC := Lib.hid hC'
      have Hne := Lib.hid hne
      clear hn hC hC' hok hcells hne
      go_wp2_with fail
      refine (hnm _).mono ?_
      rintro e w2 ⟨rfl, hb2⟩
      have hzrw : w.heap.size < wr.heap.size := by omega
      have hc2 : ∀ o, w2.cell? ⟨w.heap.size, o, none⟩ = _ := fun o => (hb2.cell (p := ⟨w.heap.size, o, none⟩) hzrw).trans (hcr o)
      have hz2 : w.heap.size < w2.heap.size := by have := hb2.size; omega
      have hb3 := hbr.trans (hb2.mono hbr.size)
      clear hcell hcr
      by_cases hCs : C = s
      · have hdec : decide (C = s) = true := by simpa using hCs
        rw [hdec] at he
        have hHit := wholeOf_hit s k hkl Hne.out (by rw [← HC.out]; exact hCs)
        have HH := Lib.hid hHit
        clear hHit hCs
        go_wp2_with fail
        go_ret2
        rw [HH.out, ← Hn.out]
        exact ⟨rfl, (hb1'.trans (hb3.mono (by omega))).alloc (by omega) _⟩
      · have hdec : decide (C = s) = false := by simpa using hCs
        rw [hdec] at he
        go_wp2_with fail
        go_roundw
        case rel => exact ⟨k + 1, by omega, by go_num, fun j hj => (by
          by_cases hjk : j < k
          · exact Hne.out j hjk
          · obtain rfl : j = k := by omega
            rw [← HC.out]; exact hCs), hb3.alloc (by have := hb3.size; omega) _⟩
        case measure => simp [intOf]; omega
    · have hd : decide ((k : Int) < 12) = false := by simp; omega
      obtain rfl : k = 12 := by omega
      have hMiss := Lib.hid (wholeOf_miss s hne)
      clear hne hcells
      go_wp2_with fail
      go_ret2
      rw [hMiss.out]
      exact ⟨rfl, hb1'.trans (hbr.mono (by omega))⟩
/-- the names of the classes that hold b -/
def inNames (b n : Nat) : List (List UInt8) := (nameBytes.take n).filter fun l => (classOf l).1.getLsbD b
theorem inNames_zero (b : Nat) : inNames b 0 = [] := rfl
theorem inNames_succ (b n : Nat) (h : n < 12) : inNames b (n + 1) = if (classOf (nameOf n)).1.getLsbD b then inNames b n ++ [nameOf n] else inNames b n := by
  have h' : n < nameBytes.length := h
  have e : nameBytes[n] = nameOf n := by
    have := nameBytes_get n h; rw [List.getElem?_eq_getElem h'] at this; exact Option.some.inj this
  unfold inNames
  rw [List.take_succ_eq_append_getElem h', List.filter_append, e]
  split <;> simp_all
theorem inNames_len (b n : Nat) : (inNames b n).length ≤ 12 := by
  refine Nat.le_trans (List.length_filter_le _ _) ?_
  rw [List.length_take]
  exact Nat.min_le_right _ _
theorem info_str : (Try.prog.info? 9).map (fun i => (i.zero, i.size, i.bytes)) = some (some (.string ByteArray.empty), 1, 16) := by kernel_rfl
/-- the call returns a new list of strings -/
def StrRow (w : World) (l : List (List UInt8)) (e : Ending) (w' : World) : Prop :=
  ∃ v, e = .returned v ∧ w'.ownsRow w.heap.size 9 1 v l.length (l.map strv) ∧ Below w.heap.size w w'
/-- what the loop of In holds -/
def Inning (w1 : World) (b k : Nat) (v : Value) (wr : World) : Prop :=
  wr.ownsRow w1.heap.size 9 1 v (inNames b k).length ((inNames b k).map strv) ∧ Below w1.heap.size w1 wr
theorem inning_same {w1 wr w' : World} {b k : Nat} {v : Value} (hk : k < 12) (h : Inning w1 b k v wr) (hno : (classOf (nameOf k)).1.getLsbD b = false) (hb : Below wr.heap.size wr w') : Inning w1 b (k + 1) v w' := by
  unfold Inning
  rw [inNames_succ b k hk, if_neg (by simp [hno])]
  exact ⟨owns_below h.1 hb, h.2.trans (hb.mono h.2.size)⟩
theorem inning_step {w1 wr w2 w' : World} {b k : Nat} {v v' : Value} {o : Obj} (hk : k < 12) (h : Inning w1 b k v wr) (hyes : (classOf (nameOf k)).1.getLsbD b = true) (hb : Below wr.heap.size wr w2)
    (hown : w'.ownsRow w1.heap.size 9 1 v' ((inNames b k).length + 1) ((inNames b k).map strv ++ [strv (nameOf k)])) (hg : (w2.alloc o).grownBy w' v.ownBlock) : Inning w1 b (k + 1) v' w' := by
  have hb2 := h.2.trans (hb.mono h.2.size)
  refine ⟨?_, (hb2.alloc hb2.size o).grown hg (by have := hb2.size; simp; omega) (fun k hk => (h.1.lt k hk).1)⟩
  rw [inNames_succ b k hk, if_pos hyes, List.map_append, List.length_append]
  exact hown
set_option maxHeartbeats 2000000 in
theorem in_any (b : Nat) (hb256 : b < 256) (w : World) : Calls Try.prog 15 #[.int .u8 b] w (StrRow w (inNames b 12)) := by
  obtain ⟨i0, hi, hz0, hz1, hz2⟩ := info_parts info_str
  go_enter Try.func15, Try.ntmps15
  go_wp2_with fail
  refine (names_any _).mono ?_
  rintro e w1 ⟨g, rfl, hg0, hg1, hcells, hb1⟩
  have hz1' : w.heap.size ≤ w1.heap.size := hb1.size
  go_wp2_with fail
  go_loopw [3, 10] (fun v i wr => ∃ k : Nat, k ≤ 12 ∧ i = .int .i64 k ∧ Inning w1 b k v wr) (fun _ i _ => 12 - (intOf i).toNat)
  case atStart => exact ⟨0, by omega, rfl, World.ownsRow_nil _ _ _ _, Below.refl _ _⟩
  case round =>
    obtain ⟨k, hk, rfl, hr⟩ := hrel
    by_cases hkl : k < 12
    · have hd : decide ((k : Int) < 12) = true := by simp; omega
      have hcell : wr.cell? ⟨g, k, none⟩ = some (strv (nameOf k)) := by rw [hr.2.cell (p := ⟨g, k, none⟩) hg1]; exact hcells k hkl
      obtain ⟨n, hn⟩ : ∃ n, n = nameOf k := ⟨_, rfl⟩
      have hok := name_class k hkl
      rw [← hn] at hcell hok
      have hnm := named_str n
      rw [hok] at hnm
      obtain ⟨C, hC⟩ : ∃ C, C = (classOf n).1 := ⟨_, rfl⟩
      rw [← hC] at hnm
      have hlen := inNames_len b k
      have hsame := Lib.hid fun (w' : World) => inning_same (w' := w') hkl hr
      have hstep := Lib.hid fun hy (w2 w' : World) (v' : Value) (o : Obj) => inning_step (w2 := w2) (w' := w') (v' := v') (o := o) hkl hr hy
      rw [← hn, ← hC] at hsame hstep
      have hown := hr.1
      have hsz := hr.2.size
      generalize inNames b k = pre at hown hstep hlen
      unfold strv at hcell hnm
      clear hn hC hok hcells hr
      go_wp2_with fail
      refine (hnm _).mono ?_
      rintro e w2 ⟨rfl, hb2⟩
      have hown2 := owns_below hown hb2
      clear hcell
      by_cases hCb : C.getLsbD b = true
      · have hhas := has_any C b hb256
        rw [hCb] at hhas
        go_wp2_with fail
        refine (hhas _).mono ?_
        rintro e w3 ⟨rfl, hb3⟩
        have hb23 : Below wr.heap.size wr w3 := (hb2.alloc hb2.size _).trans (hb3.mono (by have := hb2.size; simp; omega))
        have hown3 := owns_below hown hb23
        have hfit : w1.heap.size ≤ w3.heap.size := by have := hb23.size; omega
        have Hb := Lib.hid hb23
        clear hb2 hb3 hown hown2 hhas hb23 hnm
        go_wp2_with (at_builtin; refine wpList_append_own _ rfl _ _ 23 rfl w1.heap.size 9 i0 (.string ByteArray.empty) 1 16 Try.underlying23 hi hz0 hz1 hz2 rfl (by decide) _ _ _ rfl (hown3.alloc _) ⟨w3.heap.size, 0, none⟩ 1 1 [strv n] rfl rfl ?c1 ?c2 ?c3 ?c4 ?c5 ?_)
        case c1 => first | exact cell_one_new _ _ _ | (intro j u h; exact h)
        case c2 => first | rfl | (intro u hu; simp at hu; subst hu; rfl)
        case c3 => unfold maxLen; omega
        case c4 => omega
        case c5 => first | omega | (simp; omega)
        intro v' w' hown' hgrow _
        have hfin := hstep.out hCb w3 w' v' _ Hb.out hown' hgrow
        clear hown3 hown' hgrow hstep hsame
        go_wp2_with fail
        go_roundw
        case rel => exact ⟨k + 1, by omega, by go_num, hfin⟩
        case measure => simp [intOf]; omega
      · have hhas := has_any C b hb256
        replace hCb : C.getLsbD b = false := by simpa using hCb
        rw [hCb] at hhas
        go_wp2_with fail
        refine (hhas _).mono ?_
        rintro e w3 ⟨rfl, hb3⟩
        have hb23 : Below wr.heap.size wr w3 := (hb2.alloc hb2.size _).trans (hb3.mono (by have := hb2.size; simp; omega))
        have hfin := hsame.out w3 hCb hb23
        clear hb2 hb3 hown hown2 hhas hb23 hnm hstep hsame
        go_wp2_with fail
        go_roundw
        case rel => exact ⟨k + 1, by omega, by go_num, hfin⟩
        case measure => simp [intOf]; omega
    · have hd : decide ((k : Int) < 12) = false := by simp; omega
      obtain rfl : k = 12 := by omega
      clear hcells
      go_wp2_with fail
      go_ret
      exact ⟨_, rfl, owns_mono hr.1 hz1', hb1.trans (hr.2.mono hz1')⟩
end Go.Proofs.Ytgdkopcfkoikjaa
