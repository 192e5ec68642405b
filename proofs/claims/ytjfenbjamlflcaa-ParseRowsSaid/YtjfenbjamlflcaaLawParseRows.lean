/- The walk of law 6's ParseRows. -/
import Derived.Test.YtjfenbjamlflcaaParseWhole
import Derived.Deep.DeepCutAuto
namespace Go.Proofs.Ytjfenbjamlflcaa
set_option maxRecDepth 100000
open Go.RowKit
theorem pat_flags {w : World} {b : Nat} {x0 x1 c0 c1 c2 c3 c4 c5 c6 c7 c8 y : Value} (h : PatIn w b #[x0, x1, c0, c1, c2, c3, c4, c5, c6, c7, c8, y]) : w.cell? ⟨b, 0, none⟩ = some x0 ∧ w.cell? ⟨b, 1, none⟩ = some x1 ∧ w.cell? ⟨b, 2, none⟩ = some c0 ∧ w.cell? ⟨b, 10, none⟩ = some c8 := by
  refine ⟨?_, ?_, ?_, ?_⟩ <;> (rw [cells_at h]; rfl)
set_option maxHeartbeats 8000000 in
theorem rows_over (a b : ByteArray) (h : 150 < a.size ∨ 150 < b.size) (w : World) (hM : MaxAt w) : Calls Try.prog 7 #[.string a, .string b] w fun e w' => e = .returned (.bool true) ∧ Below w.heap.size w w' := by
  have hc : (150 < a.size) ∨ (¬ 150 < a.size ∧ 150 < b.size) := by omega
  clear h
  rcases hc with h | ⟨h, h'⟩
  · have i1 : (150 : Int) < a.size := by omega
    go_enter Try.func7, Try.ntmps7
    go_wp2_with fail
    refine (awake6_any _ hM).mono ?_
    rintro e w1 ⟨rfl, hb1⟩
    go_wp2_with fail
    go_ret
    exact ⟨rfl, hb1⟩
  · have i1 : ¬ (150 : Int) < a.size := by omega
    have i2 : (150 : Int) < b.size := by omega
    go_enter Try.func7, Try.ntmps7
    go_wp2_with fail
    refine (awake6_any _ hM).mono ?_
    rintro e w1 ⟨rfl, hb1⟩
    go_wp2_with fail
    go_ret
    exact ⟨rfl, hb1⟩
set_option maxHeartbeats 8000000 in
theorem rows_ee (a b : ByteArray) (ha : a.size ≤ 150) (hb : b.size ≤ 150) (k1 e1 k2 e2 : Int) (hA : ofP cls (nats a) = .err k1 e1) (hB : ofP cls (nats b) = .err k2 e2) (hne : ¬ e1 = 0) (w : World) (hM : MaxAt w) : Calls Try.prog 7 #[.string a, .string b] w fun e w' => e = .returned (.bool true) ∧ Below w.heap.size w w' := by
  have i1 : ¬ (150 : Int) < a.size := by omega
  have i2 : ¬ (150 : Int) < b.size := by omega
  have hofA := fun w hm => of_walk a w hm
  have hofB := fun w hm => of_walk b w hm
  rw [hA] at hofA
  rw [hB] at hofB
  have HofA := Lib.hid hofA
  have HofB := Lib.hid hofB
  clear hofA hofB hA hB
  go_enter Try.func7, Try.ntmps7
  go_wp2_with fail
  refine (awake6_any _ hM).mono ?_
  rintro e w1 ⟨rfl, hb1⟩
  have M1 := maxAt_below hM hb1
  go_wp2_with fail
  refine (HofA.out _ M1).mono ?_
  rintro e w2 ⟨rfl, hb2⟩
  have M2 : Hid (∀ o : Obj, MaxAt (w2.alloc o)) := fun o => maxAt_below M1 (hb2.alloc (by exact hb2.size) o)
  have Hb2 := Lib.hid (hb1.trans (hb2.mono hb1.size))
  clear hb2
  go_wp2_with fail
  refine (HofB.out _ (M2.out _)).mono ?_
  rintro e w3 ⟨rfl, hb3⟩
  have hpx := fun o : Obj => pat_keep (pat_keep (pat_new w2 zeroPat) hb3) ((Below.refl w3.heap.size w3).alloc (Nat.le_refl _) o)
  have hx0 := fun o : Obj => (pat_flags (hpx o)).1
  have hx1 := fun o : Obj => (pat_flags (hpx o)).2.1
  have hbx : Below w2.heap.size w2 w3 := ((Below.refl _ _).alloc (Nat.le_refl _) _).trans (hb3.mono (by simp))
  have HB3 : Hid (∀ o : Obj, Below w.heap.size w (w3.alloc o)) := fun o => (Hb2.out.trans (hbx.mono Hb2.out.size)).alloc (by have h1 := Hb2.out.size; have h2 := hbx.size; omega) o
  clear hb3 hbx hpx
  go_wp2_with fail
  go_ret
  exact ⟨rfl, HB3.out _⟩
set_option maxHeartbeats 8000000 in
theorem rows_eo (a b : ByteArray) (ha : a.size ≤ 150) (hb : b.size ≤ 150) (k1 e1 : Int) (hA : ofP cls (nats a) = .err k1 e1) (st en : Bool) (y : Nd) (g : Nat) (hB : ofP cls (nats b) = .ok st en y g) (hne : ¬ e1 = 0) (w : World) (hM : MaxAt w) : Calls Try.prog 7 #[.string a, .string b] w fun e w' => e = .returned (.bool true) ∧ Below w.heap.size w w' := by
  have i1 : ¬ (150 : Int) < a.size := by omega
  have i2 : ¬ (150 : Int) < b.size := by omega
  have hofA := fun w hm => of_walk a w hm
  have hofB := fun w hm => of_walk b w hm
  rw [hA] at hofA
  rw [hB] at hofB
  have HofA := Lib.hid hofA
  have HofB := Lib.hid hofB
  clear hofA hofB hA hB
  go_enter Try.func7, Try.ntmps7
  go_wp2_with fail
  refine (awake6_any _ hM).mono ?_
  rintro e w1 ⟨rfl, hb1⟩
  have M1 := maxAt_below hM hb1
  go_wp2_with fail
  refine (HofA.out _ M1).mono ?_
  rintro e w2 ⟨rfl, hb2⟩
  have M2 : Hid (∀ o : Obj, MaxAt (w2.alloc o)) := fun o => maxAt_below M1 (hb2.alloc (by exact hb2.size) o)
  have Hb2 := Lib.hid (hb1.trans (hb2.mono hb1.size))
  clear hb2
  go_wp2_with fail
  refine (HofB.out _ (M2.out _)).mono ?_
  rintro e w3 ⟨cs, rfl, haty, hb3⟩
  obtain ⟨ky, sy, loy, hiy, ny, ay, leny, capy, rfl⟩ := at_lit haty
  simp only [patCells, List.cons_append, List.nil_append]
  have hpx := fun o : Obj => pat_keep (pat_keep (pat_new w2 zeroPat) hb3) ((Below.refl w3.heap.size w3).alloc (Nat.le_refl _) o)
  have hx0 := fun o : Obj => (pat_flags (hpx o)).1
  have hx1 := fun o : Obj => (pat_flags (hpx o)).2.1
  have hbx : Below w2.heap.size w2 w3 := ((Below.refl _ _).alloc (Nat.le_refl _) _).trans (hb3.mono (by simp))
  have HB3 : Hid (∀ o : Obj, Below w.heap.size w (w3.alloc o)) := fun o => (Hb2.out.trans (hbx.mono Hb2.out.size)).alloc (by have h1 := Hb2.out.size; have h2 := hbx.size; omega) o
  clear hb3 hbx hpx
  clear haty
  go_wp2_with fail
  go_ret
  exact ⟨rfl, HB3.out _⟩
set_option maxHeartbeats 8000000 in
theorem rows_oe (a b : ByteArray) (ha : a.size ≤ 150) (hb : b.size ≤ 150) (st en : Bool) (x : Nd) (g : Nat) (hA : ofP cls (nats a) = .ok st en x g) (k2 e2 : Int) (hB : ofP cls (nats b) = .err k2 e2) (hne : ¬ e2 = 0) (w : World) (hM : MaxAt w) : Calls Try.prog 7 #[.string a, .string b] w fun e w' => e = .returned (.bool true) ∧ Below w.heap.size w w' := by
  have i1 : ¬ (150 : Int) < a.size := by omega
  have i2 : ¬ (150 : Int) < b.size := by omega
  have hofA := fun w hm => of_walk a w hm
  have hofB := fun w hm => of_walk b w hm
  rw [hA] at hofA
  rw [hB] at hofB
  have HofA := Lib.hid hofA
  have HofB := Lib.hid hofB
  clear hofA hofB hA hB
  go_enter Try.func7, Try.ntmps7
  go_wp2_with fail
  refine (awake6_any _ hM).mono ?_
  rintro e w1 ⟨rfl, hb1⟩
  have M1 := maxAt_below hM hb1
  go_wp2_with fail
  refine (HofA.out _ M1).mono ?_
  rintro e w2 ⟨cs, rfl, hatx, hb2⟩
  obtain ⟨kx, sx, lox, hix, nx, ax, lenx, capx, rfl⟩ := at_lit hatx
  simp only [patCells, List.cons_append, List.nil_append]
  have M2 : Hid (∀ o : Obj, MaxAt (w2.alloc o)) := fun o => maxAt_below M1 (hb2.alloc (by exact hb2.size) o)
  have Hb2 := Lib.hid (hb1.trans (hb2.mono hb1.size))
  clear hb2
  go_wp2_with fail
  refine (HofB.out _ (M2.out _)).mono ?_
  rintro e w3 ⟨rfl, hb3⟩
  have hpx := fun o : Obj => pat_keep (pat_keep (pat_new w2 #[.bool st, .bool en, .int .i64 kx, .int .u64 (word sx 0), .int .u64 (word sx 1), .int .u64 (word sx 2), .int .u64 (word sx 3), .int .i64 lox, .int .i64 hix, .int .i64 nx, .slice ax lenx capx, .int .i64 (g : Nat)]) hb3) ((Below.refl w3.heap.size w3).alloc (Nat.le_refl _) o)
  have hx0 := fun o : Obj => (pat_flags (hpx o)).1
  have hx1 := fun o : Obj => (pat_flags (hpx o)).2.1
  have hbx : Below w2.heap.size w2 w3 := ((Below.refl _ _).alloc (Nat.le_refl _) _).trans (hb3.mono (by simp))
  have HB3 : Hid (∀ o : Obj, Below w.heap.size w (w3.alloc o)) := fun o => (Hb2.out.trans (hbx.mono Hb2.out.size)).alloc (by have h1 := Hb2.out.size; have h2 := hbx.size; omega) o
  clear hb3 hbx hpx
  clear hatx
  go_wp2_with fail
  go_ret
  exact ⟨rfl, HB3.out _⟩
set_option maxHeartbeats 8000000 in
theorem rows_skip (a b : ByteArray) (ha : a.size ≤ 150) (hb : b.size ≤ 150) (st en : Bool) (x : Nd) (g : Nat) (hA : ofP cls (nats a) = .ok st en x g) (st2 en2 : Bool) (y : Nd) (g2 : Nat) (hB : ofP cls (nats b) = .ok st2 en2 y g2) (hsk : st = true ∨ en = true ∨ st2 = true ∨ en2 = true ∨ 0 < g2) (w : World) (hM : MaxAt w) : Calls Try.prog 7 #[.string a, .string b] w fun e w' => e = .returned (.bool true) ∧ Below w.heap.size w w' := by
  have i1 : ¬ (150 : Int) < a.size := by omega
  have i2 : ¬ (150 : Int) < b.size := by omega
  have hofA := fun w hm => of_walk a w hm
  have hofB := fun w hm => of_walk b w hm
  rw [hA] at hofA
  rw [hB] at hofB
  have HofA := Lib.hid hofA
  have HofB := Lib.hid hofB
  clear hofA hofB hA hB
  go_enter Try.func7, Try.ntmps7
  go_wp2_with fail
  refine (awake6_any _ hM).mono ?_
  rintro e w1 ⟨rfl, hb1⟩
  have M1 := maxAt_below hM hb1
  go_wp2_with fail
  refine (HofA.out _ M1).mono ?_
  rintro e w2 ⟨cs, rfl, hatx, hb2⟩
  obtain ⟨kx, sx, lox, hix, nx, ax, lenx, capx, rfl⟩ := at_lit hatx
  simp only [patCells, List.cons_append, List.nil_append]
  have M2 : Hid (∀ o : Obj, MaxAt (w2.alloc o)) := fun o => maxAt_below M1 (hb2.alloc (by exact hb2.size) o)
  have Hb2 := Lib.hid (hb1.trans (hb2.mono hb1.size))
  clear hb2
  go_wp2_with fail
  refine (HofB.out _ (M2.out _)).mono ?_
  rintro e w3 ⟨cs, rfl, haty, hb3⟩
  obtain ⟨ky, sy, loy, hiy, ny, ay, leny, capy, rfl⟩ := at_lit haty
  simp only [patCells, List.cons_append, List.nil_append]
  have hpx := fun o : Obj => pat_keep (pat_keep (pat_new w2 #[.bool st, .bool en, .int .i64 kx, .int .u64 (word sx 0), .int .u64 (word sx 1), .int .u64 (word sx 2), .int .u64 (word sx 3), .int .i64 lox, .int .i64 hix, .int .i64 nx, .slice ax lenx capx, .int .i64 (g : Nat)]) hb3) ((Below.refl w3.heap.size w3).alloc (Nat.le_refl _) o)
  have hx0 := fun o : Obj => (pat_flags (hpx o)).1
  have hx1 := fun o : Obj => (pat_flags (hpx o)).2.1
  have hbx : Below w2.heap.size w2 w3 := ((Below.refl _ _).alloc (Nat.le_refl _) _).trans (hb3.mono (by simp))
  have HB3 : Hid (∀ o : Obj, Below w.heap.size w (w3.alloc o)) := fun o => (Hb2.out.trans (hbx.mono Hb2.out.size)).alloc (by have h1 := Hb2.out.size; have h2 := hbx.size; omega) o
  clear hb3 hbx hpx
  clear hatx
  clear haty
  have hcase : (st = true) ∨ (st = false ∧ en = true) ∨ (st = false ∧ en = false ∧ st2 = true) ∨ (st = false ∧ en = false ∧ st2 = false ∧ en2 = true) ∨ (st = false ∧ en = false ∧ st2 = false ∧ en2 = false ∧ 0 < g2) := by
    rcases hsk with rfl | rfl | rfl | rfl | h
    · exact .inl rfl
    · cases st <;> simp
    · cases st <;> cases en <;> simp
    · cases st <;> cases en <;> cases st2 <;> simp
    · cases st <;> cases en <;> cases st2 <;> cases en2 <;> simp [h]
  clear hsk
  rcases hcase with rfl | ⟨rfl, rfl⟩ | ⟨rfl, rfl, rfl⟩ | ⟨rfl, rfl, rfl, rfl⟩ | ⟨rfl, rfl, rfl, rfl, hg2⟩
  · go_wp2_with fail
    go_ret
    exact ⟨rfl, HB3.out _⟩
  · go_wp2_with fail
    go_ret
    exact ⟨rfl, HB3.out _⟩
  · go_wp2_with fail
    go_ret
    exact ⟨rfl, HB3.out _⟩
  · go_wp2_with fail
    go_ret
    exact ⟨rfl, HB3.out _⟩
  · have hgi : (0 : Int) < (g2 : Int) := by omega
    clear hg2
    go_wp2_with fail
    go_ret
    exact ⟨rfl, HB3.out _⟩
set_option maxHeartbeats 8000000 in
theorem rows_33 (a b : ByteArray) (ha : a.size ≤ 150) (hb : b.size ≤ 150) (x : Nd) (g : Nat) (hA : ofP cls (nats a) = .ok false false x g) (y : Nd) (hB : ofP cls (nats b) = .ok false false y 0) (hg : goodP (.mk 3 0 0 0 0 (rowOf x ++ rowOf y)) g = true) (hxk : x.kind = 3) (hyk : y.kind = 3) (w : World) (hM : MaxAt w) : Calls Try.prog 7 #[.string a, .string b] w fun e w' => e = .returned (.bool true) ∧ Below w.heap.size w w' := by
  have hxr := of_row_ne hA
  have hyr := of_row_ne hB
  have hrx : rowOf x = x.nodes := by unfold rowOf; rw [if_pos hxk]
  have hry : rowOf y = y.nodes := by unfold rowOf; rw [if_pos hyk]
  have hxn := hxr.1
  rw [hrx] at hxn
  have hyn := hyr.1
  rw [hry] at hyn
  have hxf := nodes_few hxr.2
  have hyf := nodes_few hyr.2
  clear hxr hyr
  have hnat : nats ((a ++ ⟨#[124]⟩) ++ b : ByteArray) = nats a ++ 124 :: nats b := by rw [nats_add, nats_add]; simp; rfl
  have hofC := fun w hm => of_walk ((a ++ ⟨#[124]⟩) ++ b) w hm
  rw [hnat, of_rows hA hB (by rw [nats_length, nats_length]; omega), hg, hrx, hry] at hofC
  obtain ⟨L, hL⟩ : ∃ L, L = x.nodes ++ y.nodes := ⟨_, rfl⟩
  rw [← hL] at hofC
  have HL := Lib.hid hL
  have HofC := Lib.hid hofC
  clear hofC hL hg hrx hry hnat
  have i1 : ¬ (150 : Int) < a.size := by omega
  have i2 : ¬ (150 : Int) < b.size := by omega
  have hofA := fun w hm => of_walk a w hm
  have hofB := fun w hm => of_walk b w hm
  rw [hA] at hofA
  rw [hB] at hofB
  have HofA := Lib.hid hofA
  have HofB := Lib.hid hofB
  clear hofA hofB hA hB
  go_enter Try.func7, Try.ntmps7
  go_wp2_with fail
  refine (awake6_any _ hM).mono ?_
  rintro e w1 ⟨rfl, hb1⟩
  have M1 := maxAt_below hM hb1
  go_wp2_with fail
  refine (HofA.out _ M1).mono ?_
  rintro e w2 ⟨cs, rfl, hatx, hb2⟩
  have Hatx := Lib.hid hatx
  obtain ⟨sx, lox, hix, nx, bx, ox, capx, rfl, hlx, hnx⟩ := at_row3 hatx hxn
  rw [hxk]
  obtain ⟨Px, hPx, hPax, hPcx⟩ := nodesAt_pairs _ _ _ _ hnx
  have hPxl : x.nodes.length = Px.length := by rw [← hPx, List.length_map]
  have Hfx := Lib.hid hxf
  clear hxf
  rw [hPxl] at Hfx
  rw [hPxl] at hPcx
  rw [hPxl]
  generalize hmx : Px.length = mx at *
  have Hmx := Lib.hid hmx
  clear hmx hPxl
  simp only [patCells, List.cons_append, List.nil_append]
  have M2 : Hid (∀ o : Obj, MaxAt (w2.alloc o)) := fun o => maxAt_below M1 (hb2.alloc (by exact hb2.size) o)
  have Hb2 := Lib.hid (hb1.trans (hb2.mono hb1.size))
  clear hb2
  clear hatx
  go_wp2_with fail
  refine (HofB.out _ (M2.out _)).mono ?_
  rintro e w3 ⟨cs, rfl, haty, hb3⟩
  have Haty := Lib.hid haty
  obtain ⟨sy, loy, hiy, ny, bY, oy, capy, rfl, hly, hny⟩ := at_row3 haty hyn
  rw [hyk]
  obtain ⟨Py, hPy, hPay, hPcy⟩ := nodesAt_pairs _ _ _ _ hny
  have hPyl : y.nodes.length = Py.length := by rw [← hPy, List.length_map]
  have Hfy := Lib.hid hyf
  clear hyf
  rw [hPyl] at Hfy
  rw [hPyl] at hPcy
  rw [hPyl]
  generalize hmy : Py.length = my at *
  have Hmy := Lib.hid hmy
  clear hmy hPyl
  simp only [patCells, List.cons_append, List.nil_append]
  clear haty
  have hpx := fun o : Obj => pat_keep (pat_keep (pat_new w2 #[.bool false, .bool false, .int .i64 3, .int .u64 (word sx 0), .int .u64 (word sx 1), .int .u64 (word sx 2), .int .u64 (word sx 3), .int .i64 lox, .int .i64 hix, .int .i64 nx, .slice (some ⟨bx, ox, none⟩) mx capx, .int .i64 (g : Nat)]) hb3) ((Below.refl w3.heap.size w3).alloc (Nat.le_refl _) o)
  have hx0 := fun o : Obj => (pat_flags (hpx o)).1
  have hx1 := fun o : Obj => (pat_flags (hpx o)).2.1
  have B23 : Below w2.heap.size w2 w3 := ((Below.refl _ _).alloc (Nat.le_refl _) _).trans (hb3.mono (by simp))
  have HpX := Lib.hid hpx
  have HB23 := Lib.hid B23
  have M3 : Hid (∀ o : Obj, MaxAt (w3.alloc o)) := fun o => maxAt_below (maxAt_below (M2.out _) hb3) ((Below.refl _ _).alloc (Nat.le_refl _) o)
  clear hb3 hpx B23
  go_wp2_with fail
  refine (HofC.out _ (M3.out _)).mono ?_
  rintro e w4 ⟨cs, rfl, hatz, hb4⟩
  have Hatz := Lib.hid hatz
  obtain ⟨sz, loz, hiz, nz, az, capz, hzz, rfl⟩ := at_cells hatz
  clear hzz hatz
  rw [show (Nd.mk 3 0 0 0 0 L).kind = 3 from rfl] at Hatz ⊢
  generalize (Nd.mk 3 0 0 0 0 L).nodes.length = lenz at *
  simp only [patCells, List.cons_append, List.nil_append]
  obtain ⟨W5, hW5⟩ : ∃ W5, W5 = w4.alloc (.cells #[.bool false, .bool false, .int .i64 3, .int .u64 (word sz 0), .int .u64 (word sz 1), .int .u64 (word sz 2), .int .u64 (word sz 3), .int .i64 loz, .int .i64 hiz, .int .i64 nz, .slice az lenz capz, .int .i64 (g : Nat)] 33) := ⟨_, rfl⟩
  have B34 : Below w3.heap.size w3 w4 := ((Below.refl _ _).alloc (Nat.le_refl _) _).trans (hb4.mono (by simp))
  have B45 : Below w4.heap.size w4 W5 := by rw [hW5]; exact (Below.refl _ _).alloc (Nat.le_refl _) _
  have pz5 : PatIn W5 w4.heap.size #[.bool false, .bool false, .int .i64 3, .int .u64 (word sz 0), .int .u64 (word sz 1), .int .u64 (word sz 2), .int .u64 (word sz 3), .int .i64 loz, .int .i64 hiz, .int .i64 nz, .slice az lenz capz, .int .i64 (g : Nat)] := by rw [hW5]; exact pat_new _ _
  have py5 : PatIn W5 w3.heap.size #[.bool false, .bool false, .int .i64 3, .int .u64 (word sy 0), .int .u64 (word sy 1), .int .u64 (word sy 2), .int .u64 (word sy 3), .int .i64 loy, .int .i64 hiy, .int .i64 ny, .slice (some ⟨bY, oy, none⟩) my capy, .int .i64 0] := pat_keep (pat_keep (pat_new w3 _) hb4) B45
  have px5 : PatIn W5 w2.heap.size #[.bool false, .bool false, .int .i64 3, .int .u64 (word sx 0), .int .u64 (word sx 1), .int .u64 (word sx 2), .int .u64 (word sx 3), .int .i64 lox, .int .i64 hix, .int .i64 nx, .slice (some ⟨bx, ox, none⟩) mx capx, .int .i64 (g : Nat)] := pat_keep (pat_keep (HpX.out _) hb4) B45
  have B35 := B34.trans (B45.mono B34.size)
  have B25 := HB23.out.trans (B35.mono HB23.out.size)
  have HBW := Lib.hid (Hb2.out.trans (B25.mono Hb2.out.size))
  have hPAx : ∀ p ∈ Px, Nd.at W5 p.1 p.2 := fun p hp => Nd.at_below B25 (Nat.le_refl _) _ _ (hPax p hp)
  have hPCx : ∀ r, r < Px.length * 9 → W5.cell? ⟨bx, ox + r, none⟩ = (Px.flatMap (·.2))[r]? := fun r hr => by rw [B25.cell (p := ⟨bx, ox + r, none⟩) hlx]; exact hPcx r (by rw [← Hmx.out]; exact hr)
  have HPAx := Lib.hid hPAx
  have HPCx := Lib.hid hPCx
  clear hPAx hPCx hPax hPcx hnx
  have hPAy : ∀ p ∈ Py, Nd.at W5 p.1 p.2 := fun p hp => Nd.at_below B35 (Nat.le_refl _) _ _ (hPay p hp)
  have hPCy : ∀ r, r < Py.length * 9 → W5.cell? ⟨bY, oy + r, none⟩ = (Py.flatMap (·.2))[r]? := fun r hr => by rw [B35.cell (p := ⟨bY, oy + r, none⟩) hly]; exact hPcy r (by rw [← Hmy.out]; exact hr)
  have HPAy := Lib.hid hPAy
  have HLY := Lib.hid (Nat.lt_of_lt_of_le hly B35.size)
  have HPCy := Lib.hid hPCy
  clear hPAy hPCy hPay hPcy hny
  have HNz := Lib.hid (Nd.at_below B45 (Nat.le_refl _) _ _ Hatz.out)
  have Px5 := Lib.hid px5
  have Py5 := Lib.hid py5
  have Pz5 := Lib.hid pz5
  have HW5 := Lib.hid hW5
  have cx0 := (pat_flags px5).2.2.1
  have cx1 := (pat_flags px5).2.2.2
  have h9x := node9_pat px5
  clear hb4 B34 B45 pz5 py5 px5 B35 B25 hW5
  have Hmm : Hid (mx ≤ 2000 ∧ my ≤ 2000 ∧ 0 < mx ∧ 0 < my) := ⟨Hfx.out, Hfy.out, by rw [← Hmx.out]; exact List.length_pos_iff.mpr (fun h => hxn (by rw [← hPx, h]; rfl)), by rw [← Hmy.out]; exact List.length_pos_iff.mpr (fun h => hyn (by rw [← hPy, h]; rfl))⟩
  have HPL : Hid ((Px ++ Py).map (·.1) = L) := by show _ = _; rw [HL.out, List.map_append, hPx, hPy]
  go_upto_region 10 with fail
  rw [← HW5.out]
  go_wp2_with (first
          | (refine wpList_append_list rfl _ _ rfl W5.heap.size _ 0 [] rfl (World.ownsRow_nil _ _ _ _) bx ox mx capx Px rfl Hmx.out.symm HPAx.out HPCx.out (by have := Hmm.out; omega) (Nat.le_refl _) ?_
             intro v6 w6 own6 gr6
             have B6 : Below W5.heap.size W5 w6 := grown_below (Below.refl _ _) (World.ownsRow_nil _ _ _ _) gr6 (Nat.le_refl _)
             rw [Nat.zero_add, List.nil_append] at own6
             obtain ⟨g6, c6, rfl⟩ := owns_slice own6 Hmm.out.2.2.1
             have py6 : PatIn w6 w3.heap.size _ := pat_keep Py5.out B6
             have cy0 := (pat_flags py6).2.2.1
             have cy1 := (pat_flags py6).2.2.2
             have h9y := node9_pat py6
             have Own6 := Lib.hid own6
             have HB6 := Lib.hid B6
             clear own6 gr6 B6 py6 cx0 cx1 h9x)
          | (refine wpList_append_list rfl _ _ rfl W5.heap.size _ mx _ rfl Own6.out bY oy my capy Py rfl Hmy.out.symm (fun p hp => Nd.at_below HB6.out (Nat.le_refl _) _ _ (HPAy.out p hp)) (fun r hr => by rw [HB6.out.cell (p := ⟨bY, oy + r, none⟩) HLY.out]; exact HPCy.out r hr) (by have := Hmm.out; omega) HB6.out.size ?_
             intro v7 w7 own7 gr7
             have B7 : Below W5.heap.size W5 w7 := grown_below HB6.out Own6.out gr7 HB6.out.size
             obtain ⟨g7, c7, rfl⟩ := owns_slice own7 (by have := Hmm.out; omega)
             have pz7 : PatIn w7 w4.heap.size _ := pat_keep Pz5.out B7
             have cz0 := (pat_flags pz7).2.2.1
             have h9z := node9_pat pz7
             have px7 : PatIn w7 w2.heap.size _ := pat_keep Px5.out B7
             have Pz7 := Lib.hid pz7
             have Px7 := Lib.hid px7
             have hpp : ∀ p ∈ (Px ++ Py), Nd.at w7 p.1 p.2 := fun p hp => by
               rcases List.mem_append.1 hp with hp | hp
               · exact Nd.at_below B7 (Nat.le_refl _) _ _ (HPAx.out p hp)
               · exact Nd.at_below B7 (Nat.le_refl _) _ _ (HPAy.out p hp)
             have hrow := at_rows (n := mx + my) ((Px ++ Py)) hpp (by have h1 := Hmx.out; have h2 := Hmy.out; rw [List.length_append]; omega) (by have := Hmm.out; omega) (by rw [List.flatMap_append]; exact own7) g7 c7 rfl
             rw [HPL.out] at hrow
             have hsm := same_any (Nd.mk 3 0 0 0 0 L).count (.mk 3 0 0 0 0 L) (.mk 3 0 0 0 0 L) _ _ w7 (Nat.le_refl _) (Nd.at_below B7 (Nat.le_refl _) _ _ HNz.out) hrow
             rw [Nd.same_refl] at hsm
             have Hsm := Lib.hid hsm
             have HB7 := Lib.hid B7
             clear own7 gr7 B7 pz7 px7 hpp hrow hsm cy0 cy1 h9y)
          | (refine wpList_load_node_want rfl _ rfl w4.heap.size 2 _ rfl h9z ?_)
          | (go_at_call 16; refine Hsm.out.mono ?_; rintro e w8 ⟨rfl, hb8⟩
             have hgz := pat_groups (pat_keep Pz7.out hb8)
             have hgx := pat_groups (pat_keep Px7.out hb8)
             have Hb8 := Lib.hid hb8
             clear hb8)
          | fail)
  go_ret
  exact ⟨rfl, (HBW.out.trans (HB7.out.mono HBW.out.size)).trans (Hb8.out.mono (by have h1 := HBW.out.size; have h2 := HB7.out.size; omega))⟩
set_option maxHeartbeats 8000000 in
theorem rows_31 (a b : ByteArray) (ha : a.size ≤ 150) (hb : b.size ≤ 150) (x : Nd) (g : Nat) (hA : ofP cls (nats a) = .ok false false x g) (y : Nd) (hB : ofP cls (nats b) = .ok false false y 0) (hg : goodP (.mk 3 0 0 0 0 (rowOf x ++ rowOf y)) g = true) (hxk : x.kind = 3) (hyk : ¬ y.kind = 3) (w : World) (hM : MaxAt w) : Calls Try.prog 7 #[.string a, .string b] w fun e w' => e = .returned (.bool true) ∧ Below w.heap.size w w' := by
  have hxr := of_row_ne hA
  have hyr := of_row_ne hB
  have hrx : rowOf x = x.nodes := by unfold rowOf; rw [if_pos hxk]
  have hry : rowOf y = [y] := by unfold rowOf; rw [if_neg hyk]
  have hxn := hxr.1
  rw [hrx] at hxn
  have hyn := hyr.1
  rw [hry] at hyn
  have hxf := nodes_few hxr.2
  have hyf := nodes_few hyr.2
  clear hxr hyr
  have hnat : nats ((a ++ ⟨#[124]⟩) ++ b : ByteArray) = nats a ++ 124 :: nats b := by rw [nats_add, nats_add]; simp; rfl
  have hofC := fun w hm => of_walk ((a ++ ⟨#[124]⟩) ++ b) w hm
  rw [hnat, of_rows hA hB (by rw [nats_length, nats_length]; omega), hg, hrx, hry] at hofC
  obtain ⟨L, hL⟩ : ∃ L, L = x.nodes ++ [y] := ⟨_, rfl⟩
  rw [← hL] at hofC
  have HL := Lib.hid hL
  have HofC := Lib.hid hofC
  clear hofC hL hg hrx hry hnat
  have i1 : ¬ (150 : Int) < a.size := by omega
  have i2 : ¬ (150 : Int) < b.size := by omega
  have hofA := fun w hm => of_walk a w hm
  have hofB := fun w hm => of_walk b w hm
  rw [hA] at hofA
  rw [hB] at hofB
  have HofA := Lib.hid hofA
  have HofB := Lib.hid hofB
  clear hofA hofB hA hB
  go_enter Try.func7, Try.ntmps7
  go_wp2_with fail
  refine (awake6_any _ hM).mono ?_
  rintro e w1 ⟨rfl, hb1⟩
  have M1 := maxAt_below hM hb1
  go_wp2_with fail
  refine (HofA.out _ M1).mono ?_
  rintro e w2 ⟨cs, rfl, hatx, hb2⟩
  have Hatx := Lib.hid hatx
  obtain ⟨sx, lox, hix, nx, bx, ox, capx, rfl, hlx, hnx⟩ := at_row3 hatx hxn
  rw [hxk]
  obtain ⟨Px, hPx, hPax, hPcx⟩ := nodesAt_pairs _ _ _ _ hnx
  have hPxl : x.nodes.length = Px.length := by rw [← hPx, List.length_map]
  have Hfx := Lib.hid hxf
  clear hxf
  rw [hPxl] at Hfx
  rw [hPxl] at hPcx
  rw [hPxl]
  generalize hmx : Px.length = mx at *
  have Hmx := Lib.hid hmx
  clear hmx hPxl
  simp only [patCells, List.cons_append, List.nil_append]
  have M2 : Hid (∀ o : Obj, MaxAt (w2.alloc o)) := fun o => maxAt_below M1 (hb2.alloc (by exact hb2.size) o)
  have Hb2 := Lib.hid (hb1.trans (hb2.mono hb1.size))
  clear hb2
  clear hatx
  go_wp2_with fail
  refine (HofB.out _ (M2.out _)).mono ?_
  rintro e w3 ⟨cs, rfl, haty, hb3⟩
  have Haty := Lib.hid haty
  obtain ⟨sy, loy, hiy, ny, ay, capy, hzy, rfl⟩ := at_cells haty
  clear hzy hyf
  have hkyd : decide (y.kind = 3) = false := decide_eq_false hyk
  generalize y.nodes.length = leny at *
  generalize hky : y.kind = ky at *
  clear hky
  simp only [patCells, List.cons_append, List.nil_append]
  clear haty
  have hpx := fun o : Obj => pat_keep (pat_keep (pat_new w2 #[.bool false, .bool false, .int .i64 3, .int .u64 (word sx 0), .int .u64 (word sx 1), .int .u64 (word sx 2), .int .u64 (word sx 3), .int .i64 lox, .int .i64 hix, .int .i64 nx, .slice (some ⟨bx, ox, none⟩) mx capx, .int .i64 (g : Nat)]) hb3) ((Below.refl w3.heap.size w3).alloc (Nat.le_refl _) o)
  have hx0 := fun o : Obj => (pat_flags (hpx o)).1
  have hx1 := fun o : Obj => (pat_flags (hpx o)).2.1
  have B23 : Below w2.heap.size w2 w3 := ((Below.refl _ _).alloc (Nat.le_refl _) _).trans (hb3.mono (by simp))
  have HpX := Lib.hid hpx
  have HB23 := Lib.hid B23
  have M3 : Hid (∀ o : Obj, MaxAt (w3.alloc o)) := fun o => maxAt_below (maxAt_below (M2.out _) hb3) ((Below.refl _ _).alloc (Nat.le_refl _) o)
  clear hb3 hpx B23
  go_wp2_with fail
  refine (HofC.out _ (M3.out _)).mono ?_
  rintro e w4 ⟨cs, rfl, hatz, hb4⟩
  have Hatz := Lib.hid hatz
  obtain ⟨sz, loz, hiz, nz, az, capz, hzz, rfl⟩ := at_cells hatz
  clear hzz hatz
  rw [show (Nd.mk 3 0 0 0 0 L).kind = 3 from rfl] at Hatz ⊢
  generalize (Nd.mk 3 0 0 0 0 L).nodes.length = lenz at *
  simp only [patCells, List.cons_append, List.nil_append]
  obtain ⟨W5, hW5⟩ : ∃ W5, W5 = w4.alloc (.cells #[.bool false, .bool false, .int .i64 3, .int .u64 (word sz 0), .int .u64 (word sz 1), .int .u64 (word sz 2), .int .u64 (word sz 3), .int .i64 loz, .int .i64 hiz, .int .i64 nz, .slice az lenz capz, .int .i64 (g : Nat)] 33) := ⟨_, rfl⟩
  have B34 : Below w3.heap.size w3 w4 := ((Below.refl _ _).alloc (Nat.le_refl _) _).trans (hb4.mono (by simp))
  have B45 : Below w4.heap.size w4 W5 := by rw [hW5]; exact (Below.refl _ _).alloc (Nat.le_refl _) _
  have pz5 : PatIn W5 w4.heap.size #[.bool false, .bool false, .int .i64 3, .int .u64 (word sz 0), .int .u64 (word sz 1), .int .u64 (word sz 2), .int .u64 (word sz 3), .int .i64 loz, .int .i64 hiz, .int .i64 nz, .slice az lenz capz, .int .i64 (g : Nat)] := by rw [hW5]; exact pat_new _ _
  have py5 : PatIn W5 w3.heap.size #[.bool false, .bool false, .int .i64 ky, .int .u64 (word sy 0), .int .u64 (word sy 1), .int .u64 (word sy 2), .int .u64 (word sy 3), .int .i64 loy, .int .i64 hiy, .int .i64 ny, .slice ay leny capy, .int .i64 0] := pat_keep (pat_keep (pat_new w3 _) hb4) B45
  have px5 : PatIn W5 w2.heap.size #[.bool false, .bool false, .int .i64 3, .int .u64 (word sx 0), .int .u64 (word sx 1), .int .u64 (word sx 2), .int .u64 (word sx 3), .int .i64 lox, .int .i64 hix, .int .i64 nx, .slice (some ⟨bx, ox, none⟩) mx capx, .int .i64 (g : Nat)] := pat_keep (pat_keep (HpX.out _) hb4) B45
  have B35 := B34.trans (B45.mono B34.size)
  have B25 := HB23.out.trans (B35.mono HB23.out.size)
  have HBW := Lib.hid (Hb2.out.trans (B25.mono Hb2.out.size))
  have hPAx : ∀ p ∈ Px, Nd.at W5 p.1 p.2 := fun p hp => Nd.at_below B25 (Nat.le_refl _) _ _ (hPax p hp)
  have hPCx : ∀ r, r < Px.length * 9 → W5.cell? ⟨bx, ox + r, none⟩ = (Px.flatMap (·.2))[r]? := fun r hr => by rw [B25.cell (p := ⟨bx, ox + r, none⟩) hlx]; exact hPcx r (by rw [← Hmx.out]; exact hr)
  have HPAx := Lib.hid hPAx
  have HPCx := Lib.hid hPCx
  clear hPAx hPCx hPax hPcx hnx
  have hNy : Nd.at W5 y [.int .i64 ky, .int .u64 (word sy 0), .int .u64 (word sy 1), .int .u64 (word sy 2), .int .u64 (word sy 3), .int .i64 loy, .int .i64 hiy, .int .i64 ny, .slice ay leny capy] := Nd.at_below B35 (Nat.le_refl _) _ _ Haty.out
  have HNy := Lib.hid hNy
  clear hNy
  have HNz := Lib.hid (Nd.at_below B45 (Nat.le_refl _) _ _ Hatz.out)
  have Px5 := Lib.hid px5
  have Py5 := Lib.hid py5
  have Pz5 := Lib.hid pz5
  have HW5 := Lib.hid hW5
  have cx0 := (pat_flags px5).2.2.1
  have cx1 := (pat_flags px5).2.2.2
  have h9x := node9_pat px5
  clear hb4 B34 B45 pz5 py5 px5 B35 B25 hW5
  have Hmm : Hid (mx ≤ 2000 ∧ 1 ≤ 2000 ∧ 0 < mx ∧ 0 < 1) := ⟨Hfx.out, by decide, by rw [← Hmx.out]; exact List.length_pos_iff.mpr (fun h => hxn (by rw [← hPx, h]; rfl)), by decide⟩
  have HPL : Hid ((Px ++ ([(y, [.int .i64 ky, .int .u64 (word sy 0), .int .u64 (word sy 1), .int .u64 (word sy 2), .int .u64 (word sy 3), .int .i64 loy, .int .i64 hiy, .int .i64 ny, .slice ay leny capy])] : List (Nd × List Value))).map (·.1) = L) := by show _ = _; rw [HL.out, List.map_append, hPx]; rfl
  go_upto_region 10 with fail
  rw [← HW5.out]
  go_wp2_with (first
          | (refine wpList_append_list rfl _ _ rfl W5.heap.size _ 0 [] rfl (World.ownsRow_nil _ _ _ _) bx ox mx capx Px rfl Hmx.out.symm HPAx.out HPCx.out (by have := Hmm.out; omega) (Nat.le_refl _) ?_
             intro v6 w6 own6 gr6
             have B6 : Below W5.heap.size W5 w6 := grown_below (Below.refl _ _) (World.ownsRow_nil _ _ _ _) gr6 (Nat.le_refl _)
             rw [Nat.zero_add, List.nil_append] at own6
             obtain ⟨g6, c6, rfl⟩ := owns_slice own6 Hmm.out.2.2.1
             have py6 : PatIn w6 w3.heap.size _ := pat_keep Py5.out B6
             have cy0 := (pat_flags py6).2.2.1
             have cy1 := (pat_flags py6).2.2.2
             have h9y := node9_pat py6
             have Own6 := Lib.hid own6
             have HB6 := Lib.hid B6
             clear own6 gr6 B6 py6 cx0 cx1 h9x)
          | (refine wpList_load_node rfl _ rfl w3.heap.size 2 _ rfl h9y ?_)
          | (refine wpList_append_list rfl _ _ rfl W5.heap.size _ mx _ rfl (Own6.out.alloc _) w6.heap.size 0 1 1 [(y, [.int .i64 ky, .int .u64 (word sy 0), .int .u64 (word sy 1), .int .u64 (word sy 2), .int .u64 (word sy 3), .int .i64 loy, .int .i64 hiy, .int .i64 ny, .slice ay leny capy])] rfl rfl (fun p hp => by rw [List.mem_singleton] at hp; subst hp; exact Nd.at_below (HB6.out.alloc HB6.out.size _) (Nat.le_refl _) _ _ HNy.out) (fun q hq => by rw [Nat.zero_add, cells_at (World.alloc_heap_new w6 (.cells ([.int .i64 ky, .int .u64 (word sy 0), .int .u64 (word sy 1), .int .u64 (word sy 2), .int .u64 (word sy 3), .int .i64 loy, .int .i64 hiy, .int .i64 ny, .slice ay leny capy] : List Value).toArray 28))]; simp) (by have := Hmm.out; omega) (by have := HB6.out.size; simp; omega) ?_
             intro v7 w7 own7 gr7
             have B7 : Below W5.heap.size W5 w7 := grown_below (HB6.out.alloc HB6.out.size _) (Own6.out.alloc _) gr7 (by have := HB6.out.size; simp; omega)
             obtain ⟨g7, c7, rfl⟩ := owns_slice own7 (by have := Hmm.out; omega)
             have pz7 : PatIn w7 w4.heap.size _ := pat_keep Pz5.out B7
             have cz0 := (pat_flags pz7).2.2.1
             have h9z := node9_pat pz7
             have px7 : PatIn w7 w2.heap.size _ := pat_keep Px5.out B7
             have Pz7 := Lib.hid pz7
             have Px7 := Lib.hid px7
             have hpp : ∀ p ∈ (Px ++ ([(y, [.int .i64 ky, .int .u64 (word sy 0), .int .u64 (word sy 1), .int .u64 (word sy 2), .int .u64 (word sy 3), .int .i64 loy, .int .i64 hiy, .int .i64 ny, .slice ay leny capy])] : List (Nd × List Value))), Nd.at w7 p.1 p.2 := fun p hp => by
               rcases List.mem_append.1 hp with hp | hp
               · exact Nd.at_below B7 (Nat.le_refl _) _ _ (HPAx.out p hp)
               · exact Nd.at_below B7 (Nat.le_refl _) _ _ (by rw [List.mem_singleton] at hp; subst hp; exact HNy.out)
             have hrow := at_rows (n := mx + 1) ((Px ++ ([(y, [.int .i64 ky, .int .u64 (word sy 0), .int .u64 (word sy 1), .int .u64 (word sy 2), .int .u64 (word sy 3), .int .i64 loy, .int .i64 hiy, .int .i64 ny, .slice ay leny capy])] : List (Nd × List Value)))) hpp (by have h1 := Hmx.out; simp only [List.length_append, List.length_cons, List.length_nil] <;> omega) (by have := Hmm.out; omega) (by rw [List.flatMap_append]; exact own7) g7 c7 rfl
             rw [HPL.out] at hrow
             have hsm := same_any (Nd.mk 3 0 0 0 0 L).count (.mk 3 0 0 0 0 L) (.mk 3 0 0 0 0 L) _ _ w7 (Nat.le_refl _) (Nd.at_below B7 (Nat.le_refl _) _ _ HNz.out) hrow
             rw [Nd.same_refl] at hsm
             have Hsm := Lib.hid hsm
             have HB7 := Lib.hid B7
             clear own7 gr7 B7 pz7 px7 hpp hrow hsm cy0 cy1 h9y)
          | (refine wpList_load_node_want rfl _ rfl w4.heap.size 2 _ rfl h9z ?_)
          | (go_at_call 16; refine Hsm.out.mono ?_; rintro e w8 ⟨rfl, hb8⟩
             have hgz := pat_groups (pat_keep Pz7.out hb8)
             have hgx := pat_groups (pat_keep Px7.out hb8)
             have Hb8 := Lib.hid hb8
             clear hb8)
          | fail)
  go_ret
  exact ⟨rfl, (HBW.out.trans (HB7.out.mono HBW.out.size)).trans (Hb8.out.mono (by have h1 := HBW.out.size; have h2 := HB7.out.size; omega))⟩
set_option maxHeartbeats 8000000 in
theorem rows_13 (a b : ByteArray) (ha : a.size ≤ 150) (hb : b.size ≤ 150) (x : Nd) (g : Nat) (hA : ofP cls (nats a) = .ok false false x g) (y : Nd) (hB : ofP cls (nats b) = .ok false false y 0) (hg : goodP (.mk 3 0 0 0 0 (rowOf x ++ rowOf y)) g = true) (hxk : ¬ x.kind = 3) (hyk : y.kind = 3) (w : World) (hM : MaxAt w) : Calls Try.prog 7 #[.string a, .string b] w fun e w' => e = .returned (.bool true) ∧ Below w.heap.size w w' := by
  have hxr := of_row_ne hA
  have hyr := of_row_ne hB
  have hrx : rowOf x = [x] := by unfold rowOf; rw [if_neg hxk]
  have hry : rowOf y = y.nodes := by unfold rowOf; rw [if_pos hyk]
  have hxn := hxr.1
  rw [hrx] at hxn
  have hyn := hyr.1
  rw [hry] at hyn
  have hxf := nodes_few hxr.2
  have hyf := nodes_few hyr.2
  clear hxr hyr
  have hnat : nats ((a ++ ⟨#[124]⟩) ++ b : ByteArray) = nats a ++ 124 :: nats b := by rw [nats_add, nats_add]; simp; rfl
  have hofC := fun w hm => of_walk ((a ++ ⟨#[124]⟩) ++ b) w hm
  rw [hnat, of_rows hA hB (by rw [nats_length, nats_length]; omega), hg, hrx, hry] at hofC
  obtain ⟨L, hL⟩ : ∃ L, L = [x] ++ y.nodes := ⟨_, rfl⟩
  rw [← hL] at hofC
  have HL := Lib.hid hL
  have HofC := Lib.hid hofC
  clear hofC hL hg hrx hry hnat
  have i1 : ¬ (150 : Int) < a.size := by omega
  have i2 : ¬ (150 : Int) < b.size := by omega
  have hofA := fun w hm => of_walk a w hm
  have hofB := fun w hm => of_walk b w hm
  rw [hA] at hofA
  rw [hB] at hofB
  have HofA := Lib.hid hofA
  have HofB := Lib.hid hofB
  clear hofA hofB hA hB
  go_enter Try.func7, Try.ntmps7
  go_wp2_with fail
  refine (awake6_any _ hM).mono ?_
  rintro e w1 ⟨rfl, hb1⟩
  have M1 := maxAt_below hM hb1
  go_wp2_with fail
  refine (HofA.out _ M1).mono ?_
  rintro e w2 ⟨cs, rfl, hatx, hb2⟩
  have Hatx := Lib.hid hatx
  obtain ⟨sx, lox, hix, nx, ax, capx, hzx, rfl⟩ := at_cells hatx
  clear hzx hxf
  have hkxd : decide (x.kind = 3) = false := decide_eq_false hxk
  generalize x.nodes.length = lenx at *
  generalize hkx : x.kind = kx at *
  clear hkx
  simp only [patCells, List.cons_append, List.nil_append]
  have M2 : Hid (∀ o : Obj, MaxAt (w2.alloc o)) := fun o => maxAt_below M1 (hb2.alloc (by exact hb2.size) o)
  have Hb2 := Lib.hid (hb1.trans (hb2.mono hb1.size))
  clear hb2
  clear hatx
  go_wp2_with fail
  refine (HofB.out _ (M2.out _)).mono ?_
  rintro e w3 ⟨cs, rfl, haty, hb3⟩
  have Haty := Lib.hid haty
  obtain ⟨sy, loy, hiy, ny, bY, oy, capy, rfl, hly, hny⟩ := at_row3 haty hyn
  rw [hyk]
  obtain ⟨Py, hPy, hPay, hPcy⟩ := nodesAt_pairs _ _ _ _ hny
  have hPyl : y.nodes.length = Py.length := by rw [← hPy, List.length_map]
  have Hfy := Lib.hid hyf
  clear hyf
  rw [hPyl] at Hfy
  rw [hPyl] at hPcy
  rw [hPyl]
  generalize hmy : Py.length = my at *
  have Hmy := Lib.hid hmy
  clear hmy hPyl
  simp only [patCells, List.cons_append, List.nil_append]
  clear haty
  have hpx := fun o : Obj => pat_keep (pat_keep (pat_new w2 #[.bool false, .bool false, .int .i64 kx, .int .u64 (word sx 0), .int .u64 (word sx 1), .int .u64 (word sx 2), .int .u64 (word sx 3), .int .i64 lox, .int .i64 hix, .int .i64 nx, .slice ax lenx capx, .int .i64 (g : Nat)]) hb3) ((Below.refl w3.heap.size w3).alloc (Nat.le_refl _) o)
  have hx0 := fun o : Obj => (pat_flags (hpx o)).1
  have hx1 := fun o : Obj => (pat_flags (hpx o)).2.1
  have B23 : Below w2.heap.size w2 w3 := ((Below.refl _ _).alloc (Nat.le_refl _) _).trans (hb3.mono (by simp))
  have HpX := Lib.hid hpx
  have HB23 := Lib.hid B23
  have M3 : Hid (∀ o : Obj, MaxAt (w3.alloc o)) := fun o => maxAt_below (maxAt_below (M2.out _) hb3) ((Below.refl _ _).alloc (Nat.le_refl _) o)
  clear hb3 hpx B23
  go_wp2_with fail
  refine (HofC.out _ (M3.out _)).mono ?_
  rintro e w4 ⟨cs, rfl, hatz, hb4⟩
  have Hatz := Lib.hid hatz
  obtain ⟨sz, loz, hiz, nz, az, capz, hzz, rfl⟩ := at_cells hatz
  clear hzz hatz
  rw [show (Nd.mk 3 0 0 0 0 L).kind = 3 from rfl] at Hatz ⊢
  generalize (Nd.mk 3 0 0 0 0 L).nodes.length = lenz at *
  simp only [patCells, List.cons_append, List.nil_append]
  obtain ⟨W5, hW5⟩ : ∃ W5, W5 = w4.alloc (.cells #[.bool false, .bool false, .int .i64 3, .int .u64 (word sz 0), .int .u64 (word sz 1), .int .u64 (word sz 2), .int .u64 (word sz 3), .int .i64 loz, .int .i64 hiz, .int .i64 nz, .slice az lenz capz, .int .i64 (g : Nat)] 33) := ⟨_, rfl⟩
  have B34 : Below w3.heap.size w3 w4 := ((Below.refl _ _).alloc (Nat.le_refl _) _).trans (hb4.mono (by simp))
  have B45 : Below w4.heap.size w4 W5 := by rw [hW5]; exact (Below.refl _ _).alloc (Nat.le_refl _) _
  have pz5 : PatIn W5 w4.heap.size #[.bool false, .bool false, .int .i64 3, .int .u64 (word sz 0), .int .u64 (word sz 1), .int .u64 (word sz 2), .int .u64 (word sz 3), .int .i64 loz, .int .i64 hiz, .int .i64 nz, .slice az lenz capz, .int .i64 (g : Nat)] := by rw [hW5]; exact pat_new _ _
  have py5 : PatIn W5 w3.heap.size #[.bool false, .bool false, .int .i64 3, .int .u64 (word sy 0), .int .u64 (word sy 1), .int .u64 (word sy 2), .int .u64 (word sy 3), .int .i64 loy, .int .i64 hiy, .int .i64 ny, .slice (some ⟨bY, oy, none⟩) my capy, .int .i64 0] := pat_keep (pat_keep (pat_new w3 _) hb4) B45
  have px5 : PatIn W5 w2.heap.size #[.bool false, .bool false, .int .i64 kx, .int .u64 (word sx 0), .int .u64 (word sx 1), .int .u64 (word sx 2), .int .u64 (word sx 3), .int .i64 lox, .int .i64 hix, .int .i64 nx, .slice ax lenx capx, .int .i64 (g : Nat)] := pat_keep (pat_keep (HpX.out _) hb4) B45
  have B35 := B34.trans (B45.mono B34.size)
  have B25 := HB23.out.trans (B35.mono HB23.out.size)
  have HBW := Lib.hid (Hb2.out.trans (B25.mono Hb2.out.size))
  have hNx : Nd.at W5 x [.int .i64 kx, .int .u64 (word sx 0), .int .u64 (word sx 1), .int .u64 (word sx 2), .int .u64 (word sx 3), .int .i64 lox, .int .i64 hix, .int .i64 nx, .slice ax lenx capx] := Nd.at_below B25 (Nat.le_refl _) _ _ Hatx.out
  have HNx := Lib.hid hNx
  clear hNx
  have hPAy : ∀ p ∈ Py, Nd.at W5 p.1 p.2 := fun p hp => Nd.at_below B35 (Nat.le_refl _) _ _ (hPay p hp)
  have hPCy : ∀ r, r < Py.length * 9 → W5.cell? ⟨bY, oy + r, none⟩ = (Py.flatMap (·.2))[r]? := fun r hr => by rw [B35.cell (p := ⟨bY, oy + r, none⟩) hly]; exact hPcy r (by rw [← Hmy.out]; exact hr)
  have HPAy := Lib.hid hPAy
  have HLY := Lib.hid (Nat.lt_of_lt_of_le hly B35.size)
  have HPCy := Lib.hid hPCy
  clear hPAy hPCy hPay hPcy hny
  have HNz := Lib.hid (Nd.at_below B45 (Nat.le_refl _) _ _ Hatz.out)
  have Px5 := Lib.hid px5
  have Py5 := Lib.hid py5
  have Pz5 := Lib.hid pz5
  have HW5 := Lib.hid hW5
  have cx0 := (pat_flags px5).2.2.1
  have cx1 := (pat_flags px5).2.2.2
  have h9x := node9_pat px5
  clear hb4 B34 B45 pz5 py5 px5 B35 B25 hW5
  have Hmm : Hid (1 ≤ 2000 ∧ my ≤ 2000 ∧ 0 < 1 ∧ 0 < my) := ⟨by decide, Hfy.out, by decide, by rw [← Hmy.out]; exact List.length_pos_iff.mpr (fun h => hyn (by rw [← hPy, h]; rfl))⟩
  have HPL : Hid ((([(x, [.int .i64 kx, .int .u64 (word sx 0), .int .u64 (word sx 1), .int .u64 (word sx 2), .int .u64 (word sx 3), .int .i64 lox, .int .i64 hix, .int .i64 nx, .slice ax lenx capx])] : List (Nd × List Value)) ++ Py).map (·.1) = L) := by show _ = _; rw [HL.out, List.map_append, hPy]; rfl
  go_upto_region 10 with fail
  rw [← HW5.out]
  go_wp2_with (first
          | (refine wpList_load_node rfl _ rfl w2.heap.size 2 _ rfl h9x ?_)
          | (refine wpList_append_list rfl _ _ rfl W5.heap.size _ 0 [] rfl (World.ownsRow_nil _ _ _ _) W5.heap.size 0 1 1 [(x, [.int .i64 kx, .int .u64 (word sx 0), .int .u64 (word sx 1), .int .u64 (word sx 2), .int .u64 (word sx 3), .int .i64 lox, .int .i64 hix, .int .i64 nx, .slice ax lenx capx])] rfl rfl (fun p hp => by rw [List.mem_singleton] at hp; subst hp; exact Nd.at_below ((Below.refl W5.heap.size W5).alloc (Nat.le_refl _) _) (Nat.le_refl _) _ _ HNx.out) (fun q hq => by rw [Nat.zero_add, cells_at (World.alloc_heap_new W5 (.cells ([.int .i64 kx, .int .u64 (word sx 0), .int .u64 (word sx 1), .int .u64 (word sx 2), .int .u64 (word sx 3), .int .i64 lox, .int .i64 hix, .int .i64 nx, .slice ax lenx capx] : List Value).toArray 28))]; simp) (by have := Hmm.out; omega) (by simp) ?_
             intro v6 w6 own6 gr6
             have B6 : Below W5.heap.size W5 w6 := grown_below ((Below.refl _ _).alloc (Nat.le_refl _) _) (World.ownsRow_nil _ _ _ _) gr6 (by simp)
             rw [Nat.zero_add, List.nil_append] at own6
             obtain ⟨g6, c6, rfl⟩ := owns_slice own6 Hmm.out.2.2.1
             have py6 : PatIn w6 w3.heap.size _ := pat_keep Py5.out B6
             have cy0 := (pat_flags py6).2.2.1
             have cy1 := (pat_flags py6).2.2.2
             have h9y := node9_pat py6
             have Own6 := Lib.hid own6
             have HB6 := Lib.hid B6
             clear own6 gr6 B6 py6 cx0 cx1 h9x)
          | (refine wpList_append_list rfl _ _ rfl W5.heap.size _ 1 _ rfl Own6.out bY oy my capy Py rfl Hmy.out.symm (fun p hp => Nd.at_below HB6.out (Nat.le_refl _) _ _ (HPAy.out p hp)) (fun r hr => by rw [HB6.out.cell (p := ⟨bY, oy + r, none⟩) HLY.out]; exact HPCy.out r hr) (by have := Hmm.out; omega) HB6.out.size ?_
             intro v7 w7 own7 gr7
             have B7 : Below W5.heap.size W5 w7 := grown_below HB6.out Own6.out gr7 HB6.out.size
             obtain ⟨g7, c7, rfl⟩ := owns_slice own7 (by have := Hmm.out; omega)
             have pz7 : PatIn w7 w4.heap.size _ := pat_keep Pz5.out B7
             have cz0 := (pat_flags pz7).2.2.1
             have h9z := node9_pat pz7
             have px7 : PatIn w7 w2.heap.size _ := pat_keep Px5.out B7
             have Pz7 := Lib.hid pz7
             have Px7 := Lib.hid px7
             have hpp : ∀ p ∈ (([(x, [.int .i64 kx, .int .u64 (word sx 0), .int .u64 (word sx 1), .int .u64 (word sx 2), .int .u64 (word sx 3), .int .i64 lox, .int .i64 hix, .int .i64 nx, .slice ax lenx capx])] : List (Nd × List Value)) ++ Py), Nd.at w7 p.1 p.2 := fun p hp => by
               rcases List.mem_append.1 hp with hp | hp
               · exact Nd.at_below B7 (Nat.le_refl _) _ _ (by rw [List.mem_singleton] at hp; subst hp; exact HNx.out)
               · exact Nd.at_below B7 (Nat.le_refl _) _ _ (HPAy.out p hp)
             have hrow := at_rows (n := 1 + my) ((([(x, [.int .i64 kx, .int .u64 (word sx 0), .int .u64 (word sx 1), .int .u64 (word sx 2), .int .u64 (word sx 3), .int .i64 lox, .int .i64 hix, .int .i64 nx, .slice ax lenx capx])] : List (Nd × List Value)) ++ Py)) hpp (by have h2 := Hmy.out; simp only [List.length_append, List.length_cons, List.length_nil] <;> omega) (by have := Hmm.out; omega) (by rw [List.flatMap_append]; exact own7) g7 c7 rfl
             rw [HPL.out] at hrow
             have hsm := same_any (Nd.mk 3 0 0 0 0 L).count (.mk 3 0 0 0 0 L) (.mk 3 0 0 0 0 L) _ _ w7 (Nat.le_refl _) (Nd.at_below B7 (Nat.le_refl _) _ _ HNz.out) hrow
             rw [Nd.same_refl] at hsm
             have Hsm := Lib.hid hsm
             have HB7 := Lib.hid B7
             clear own7 gr7 B7 pz7 px7 hpp hrow hsm cy0 cy1 h9y)
          | (refine wpList_load_node_want rfl _ rfl w4.heap.size 2 _ rfl h9z ?_)
          | (go_at_call 16; refine Hsm.out.mono ?_; rintro e w8 ⟨rfl, hb8⟩
             have hgz := pat_groups (pat_keep Pz7.out hb8)
             have hgx := pat_groups (pat_keep Px7.out hb8)
             have Hb8 := Lib.hid hb8
             clear hb8)
          | fail)
  go_ret
  exact ⟨rfl, (HBW.out.trans (HB7.out.mono HBW.out.size)).trans (Hb8.out.mono (by have h1 := HBW.out.size; have h2 := HB7.out.size; omega))⟩
set_option maxHeartbeats 8000000 in
theorem rows_11 (a b : ByteArray) (ha : a.size ≤ 150) (hb : b.size ≤ 150) (x : Nd) (g : Nat) (hA : ofP cls (nats a) = .ok false false x g) (y : Nd) (hB : ofP cls (nats b) = .ok false false y 0) (hg : goodP (.mk 3 0 0 0 0 (rowOf x ++ rowOf y)) g = true) (hxk : ¬ x.kind = 3) (hyk : ¬ y.kind = 3) (w : World) (hM : MaxAt w) : Calls Try.prog 7 #[.string a, .string b] w fun e w' => e = .returned (.bool true) ∧ Below w.heap.size w w' := by
  have hxr := of_row_ne hA
  have hyr := of_row_ne hB
  have hrx : rowOf x = [x] := by unfold rowOf; rw [if_neg hxk]
  have hry : rowOf y = [y] := by unfold rowOf; rw [if_neg hyk]
  have hxn := hxr.1
  rw [hrx] at hxn
  have hyn := hyr.1
  rw [hry] at hyn
  have hxf := nodes_few hxr.2
  have hyf := nodes_few hyr.2
  clear hxr hyr
  have hnat : nats ((a ++ ⟨#[124]⟩) ++ b : ByteArray) = nats a ++ 124 :: nats b := by rw [nats_add, nats_add]; simp; rfl
  have hofC := fun w hm => of_walk ((a ++ ⟨#[124]⟩) ++ b) w hm
  rw [hnat, of_rows hA hB (by rw [nats_length, nats_length]; omega), hg, hrx, hry] at hofC
  obtain ⟨L, hL⟩ : ∃ L, L = [x] ++ [y] := ⟨_, rfl⟩
  rw [← hL] at hofC
  have HL := Lib.hid hL
  have HofC := Lib.hid hofC
  clear hofC hL hg hrx hry hnat
  have i1 : ¬ (150 : Int) < a.size := by omega
  have i2 : ¬ (150 : Int) < b.size := by omega
  have hofA := fun w hm => of_walk a w hm
  have hofB := fun w hm => of_walk b w hm
  rw [hA] at hofA
  rw [hB] at hofB
  have HofA := Lib.hid hofA
  have HofB := Lib.hid hofB
  clear hofA hofB hA hB
  go_enter Try.func7, Try.ntmps7
  go_wp2_with fail
  refine (awake6_any _ hM).mono ?_
  rintro e w1 ⟨rfl, hb1⟩
  have M1 := maxAt_below hM hb1
  go_wp2_with fail
  refine (HofA.out _ M1).mono ?_
  rintro e w2 ⟨cs, rfl, hatx, hb2⟩
  have Hatx := Lib.hid hatx
  obtain ⟨sx, lox, hix, nx, ax, capx, hzx, rfl⟩ := at_cells hatx
  clear hzx hxf
  have hkxd : decide (x.kind = 3) = false := decide_eq_false hxk
  generalize x.nodes.length = lenx at *
  generalize hkx : x.kind = kx at *
  clear hkx
  simp only [patCells, List.cons_append, List.nil_append]
  have M2 : Hid (∀ o : Obj, MaxAt (w2.alloc o)) := fun o => maxAt_below M1 (hb2.alloc (by exact hb2.size) o)
  have Hb2 := Lib.hid (hb1.trans (hb2.mono hb1.size))
  clear hb2
  clear hatx
  go_wp2_with fail
  refine (HofB.out _ (M2.out _)).mono ?_
  rintro e w3 ⟨cs, rfl, haty, hb3⟩
  have Haty := Lib.hid haty
  obtain ⟨sy, loy, hiy, ny, ay, capy, hzy, rfl⟩ := at_cells haty
  clear hzy hyf
  have hkyd : decide (y.kind = 3) = false := decide_eq_false hyk
  generalize y.nodes.length = leny at *
  generalize hky : y.kind = ky at *
  clear hky
  simp only [patCells, List.cons_append, List.nil_append]
  clear haty
  have hpx := fun o : Obj => pat_keep (pat_keep (pat_new w2 #[.bool false, .bool false, .int .i64 kx, .int .u64 (word sx 0), .int .u64 (word sx 1), .int .u64 (word sx 2), .int .u64 (word sx 3), .int .i64 lox, .int .i64 hix, .int .i64 nx, .slice ax lenx capx, .int .i64 (g : Nat)]) hb3) ((Below.refl w3.heap.size w3).alloc (Nat.le_refl _) o)
  have hx0 := fun o : Obj => (pat_flags (hpx o)).1
  have hx1 := fun o : Obj => (pat_flags (hpx o)).2.1
  have B23 : Below w2.heap.size w2 w3 := ((Below.refl _ _).alloc (Nat.le_refl _) _).trans (hb3.mono (by simp))
  have HpX := Lib.hid hpx
  have HB23 := Lib.hid B23
  have M3 : Hid (∀ o : Obj, MaxAt (w3.alloc o)) := fun o => maxAt_below (maxAt_below (M2.out _) hb3) ((Below.refl _ _).alloc (Nat.le_refl _) o)
  clear hb3 hpx B23
  go_wp2_with fail
  refine (HofC.out _ (M3.out _)).mono ?_
  rintro e w4 ⟨cs, rfl, hatz, hb4⟩
  have Hatz := Lib.hid hatz
  obtain ⟨sz, loz, hiz, nz, az, capz, hzz, rfl⟩ := at_cells hatz
  clear hzz hatz
  rw [show (Nd.mk 3 0 0 0 0 L).kind = 3 from rfl] at Hatz ⊢
  generalize (Nd.mk 3 0 0 0 0 L).nodes.length = lenz at *
  simp only [patCells, List.cons_append, List.nil_append]
  obtain ⟨W5, hW5⟩ : ∃ W5, W5 = w4.alloc (.cells #[.bool false, .bool false, .int .i64 3, .int .u64 (word sz 0), .int .u64 (word sz 1), .int .u64 (word sz 2), .int .u64 (word sz 3), .int .i64 loz, .int .i64 hiz, .int .i64 nz, .slice az lenz capz, .int .i64 (g : Nat)] 33) := ⟨_, rfl⟩
  have B34 : Below w3.heap.size w3 w4 := ((Below.refl _ _).alloc (Nat.le_refl _) _).trans (hb4.mono (by simp))
  have B45 : Below w4.heap.size w4 W5 := by rw [hW5]; exact (Below.refl _ _).alloc (Nat.le_refl _) _
  have pz5 : PatIn W5 w4.heap.size #[.bool false, .bool false, .int .i64 3, .int .u64 (word sz 0), .int .u64 (word sz 1), .int .u64 (word sz 2), .int .u64 (word sz 3), .int .i64 loz, .int .i64 hiz, .int .i64 nz, .slice az lenz capz, .int .i64 (g : Nat)] := by rw [hW5]; exact pat_new _ _
  have py5 : PatIn W5 w3.heap.size #[.bool false, .bool false, .int .i64 ky, .int .u64 (word sy 0), .int .u64 (word sy 1), .int .u64 (word sy 2), .int .u64 (word sy 3), .int .i64 loy, .int .i64 hiy, .int .i64 ny, .slice ay leny capy, .int .i64 0] := pat_keep (pat_keep (pat_new w3 _) hb4) B45
  have px5 : PatIn W5 w2.heap.size #[.bool false, .bool false, .int .i64 kx, .int .u64 (word sx 0), .int .u64 (word sx 1), .int .u64 (word sx 2), .int .u64 (word sx 3), .int .i64 lox, .int .i64 hix, .int .i64 nx, .slice ax lenx capx, .int .i64 (g : Nat)] := pat_keep (pat_keep (HpX.out _) hb4) B45
  have B35 := B34.trans (B45.mono B34.size)
  have B25 := HB23.out.trans (B35.mono HB23.out.size)
  have HBW := Lib.hid (Hb2.out.trans (B25.mono Hb2.out.size))
  have hNx : Nd.at W5 x [.int .i64 kx, .int .u64 (word sx 0), .int .u64 (word sx 1), .int .u64 (word sx 2), .int .u64 (word sx 3), .int .i64 lox, .int .i64 hix, .int .i64 nx, .slice ax lenx capx] := Nd.at_below B25 (Nat.le_refl _) _ _ Hatx.out
  have HNx := Lib.hid hNx
  clear hNx
  have hNy : Nd.at W5 y [.int .i64 ky, .int .u64 (word sy 0), .int .u64 (word sy 1), .int .u64 (word sy 2), .int .u64 (word sy 3), .int .i64 loy, .int .i64 hiy, .int .i64 ny, .slice ay leny capy] := Nd.at_below B35 (Nat.le_refl _) _ _ Haty.out
  have HNy := Lib.hid hNy
  clear hNy
  have HNz := Lib.hid (Nd.at_below B45 (Nat.le_refl _) _ _ Hatz.out)
  have Px5 := Lib.hid px5
  have Py5 := Lib.hid py5
  have Pz5 := Lib.hid pz5
  have HW5 := Lib.hid hW5
  have cx0 := (pat_flags px5).2.2.1
  have cx1 := (pat_flags px5).2.2.2
  have h9x := node9_pat px5
  clear hb4 B34 B45 pz5 py5 px5 B35 B25 hW5
  have Hmm : Hid (1 ≤ 2000 ∧ 1 ≤ 2000 ∧ 0 < 1 ∧ 0 < 1) := ⟨by decide, by decide, by decide, by decide⟩
  have HPL : Hid ((([(x, [.int .i64 kx, .int .u64 (word sx 0), .int .u64 (word sx 1), .int .u64 (word sx 2), .int .u64 (word sx 3), .int .i64 lox, .int .i64 hix, .int .i64 nx, .slice ax lenx capx])] : List (Nd × List Value)) ++ ([(y, [.int .i64 ky, .int .u64 (word sy 0), .int .u64 (word sy 1), .int .u64 (word sy 2), .int .u64 (word sy 3), .int .i64 loy, .int .i64 hiy, .int .i64 ny, .slice ay leny capy])] : List (Nd × List Value))).map (·.1) = L) := by show _ = _; rw [HL.out, List.map_append]; rfl
  go_upto_region 10 with fail
  rw [← HW5.out]
  go_wp2_with (first
          | (refine wpList_load_node rfl _ rfl w2.heap.size 2 _ rfl h9x ?_)
          | (refine wpList_append_list rfl _ _ rfl W5.heap.size _ 0 [] rfl (World.ownsRow_nil _ _ _ _) W5.heap.size 0 1 1 [(x, [.int .i64 kx, .int .u64 (word sx 0), .int .u64 (word sx 1), .int .u64 (word sx 2), .int .u64 (word sx 3), .int .i64 lox, .int .i64 hix, .int .i64 nx, .slice ax lenx capx])] rfl rfl (fun p hp => by rw [List.mem_singleton] at hp; subst hp; exact Nd.at_below ((Below.refl W5.heap.size W5).alloc (Nat.le_refl _) _) (Nat.le_refl _) _ _ HNx.out) (fun q hq => by rw [Nat.zero_add, cells_at (World.alloc_heap_new W5 (.cells ([.int .i64 kx, .int .u64 (word sx 0), .int .u64 (word sx 1), .int .u64 (word sx 2), .int .u64 (word sx 3), .int .i64 lox, .int .i64 hix, .int .i64 nx, .slice ax lenx capx] : List Value).toArray 28))]; simp) (by have := Hmm.out; omega) (by simp) ?_
             intro v6 w6 own6 gr6
             have B6 : Below W5.heap.size W5 w6 := grown_below ((Below.refl _ _).alloc (Nat.le_refl _) _) (World.ownsRow_nil _ _ _ _) gr6 (by simp)
             rw [Nat.zero_add, List.nil_append] at own6
             obtain ⟨g6, c6, rfl⟩ := owns_slice own6 Hmm.out.2.2.1
             have py6 : PatIn w6 w3.heap.size _ := pat_keep Py5.out B6
             have cy0 := (pat_flags py6).2.2.1
             have cy1 := (pat_flags py6).2.2.2
             have h9y := node9_pat py6
             have Own6 := Lib.hid own6
             have HB6 := Lib.hid B6
             clear own6 gr6 B6 py6 cx0 cx1 h9x)
          | (refine wpList_load_node rfl _ rfl w3.heap.size 2 _ rfl h9y ?_)
          | (refine wpList_append_list rfl _ _ rfl W5.heap.size _ 1 _ rfl (Own6.out.alloc _) w6.heap.size 0 1 1 [(y, [.int .i64 ky, .int .u64 (word sy 0), .int .u64 (word sy 1), .int .u64 (word sy 2), .int .u64 (word sy 3), .int .i64 loy, .int .i64 hiy, .int .i64 ny, .slice ay leny capy])] rfl rfl (fun p hp => by rw [List.mem_singleton] at hp; subst hp; exact Nd.at_below (HB6.out.alloc HB6.out.size _) (Nat.le_refl _) _ _ HNy.out) (fun q hq => by rw [Nat.zero_add, cells_at (World.alloc_heap_new w6 (.cells ([.int .i64 ky, .int .u64 (word sy 0), .int .u64 (word sy 1), .int .u64 (word sy 2), .int .u64 (word sy 3), .int .i64 loy, .int .i64 hiy, .int .i64 ny, .slice ay leny capy] : List Value).toArray 28))]; simp) (by have := Hmm.out; omega) (by have := HB6.out.size; simp; omega) ?_
             intro v7 w7 own7 gr7
             have B7 : Below W5.heap.size W5 w7 := grown_below (HB6.out.alloc HB6.out.size _) (Own6.out.alloc _) gr7 (by have := HB6.out.size; simp; omega)
             obtain ⟨g7, c7, rfl⟩ := owns_slice own7 (by have := Hmm.out; omega)
             have pz7 : PatIn w7 w4.heap.size _ := pat_keep Pz5.out B7
             have cz0 := (pat_flags pz7).2.2.1
             have h9z := node9_pat pz7
             have px7 : PatIn w7 w2.heap.size _ := pat_keep Px5.out B7
             have Pz7 := Lib.hid pz7
             have Px7 := Lib.hid px7
             have hpp : ∀ p ∈ (([(x, [.int .i64 kx, .int .u64 (word sx 0), .int .u64 (word sx 1), .int .u64 (word sx 2), .int .u64 (word sx 3), .int .i64 lox, .int .i64 hix, .int .i64 nx, .slice ax lenx capx])] : List (Nd × List Value)) ++ ([(y, [.int .i64 ky, .int .u64 (word sy 0), .int .u64 (word sy 1), .int .u64 (word sy 2), .int .u64 (word sy 3), .int .i64 loy, .int .i64 hiy, .int .i64 ny, .slice ay leny capy])] : List (Nd × List Value))), Nd.at w7 p.1 p.2 := fun p hp => by
               rcases List.mem_append.1 hp with hp | hp
               · exact Nd.at_below B7 (Nat.le_refl _) _ _ (by rw [List.mem_singleton] at hp; subst hp; exact HNx.out)
               · exact Nd.at_below B7 (Nat.le_refl _) _ _ (by rw [List.mem_singleton] at hp; subst hp; exact HNy.out)
             have hrow := at_rows (n := 1 + 1) ((([(x, [.int .i64 kx, .int .u64 (word sx 0), .int .u64 (word sx 1), .int .u64 (word sx 2), .int .u64 (word sx 3), .int .i64 lox, .int .i64 hix, .int .i64 nx, .slice ax lenx capx])] : List (Nd × List Value)) ++ ([(y, [.int .i64 ky, .int .u64 (word sy 0), .int .u64 (word sy 1), .int .u64 (word sy 2), .int .u64 (word sy 3), .int .i64 loy, .int .i64 hiy, .int .i64 ny, .slice ay leny capy])] : List (Nd × List Value)))) hpp (by simp only [List.length_append, List.length_cons, List.length_nil] <;> omega) (by have := Hmm.out; omega) (by rw [List.flatMap_append]; exact own7) g7 c7 rfl
             rw [HPL.out] at hrow
             have hsm := same_any (Nd.mk 3 0 0 0 0 L).count (.mk 3 0 0 0 0 L) (.mk 3 0 0 0 0 L) _ _ w7 (Nat.le_refl _) (Nd.at_below B7 (Nat.le_refl _) _ _ HNz.out) hrow
             rw [Nd.same_refl] at hsm
             have Hsm := Lib.hid hsm
             have HB7 := Lib.hid B7
             clear own7 gr7 B7 pz7 px7 hpp hrow hsm cy0 cy1 h9y)
          | (refine wpList_load_node_want rfl _ rfl w4.heap.size 2 _ rfl h9z ?_)
          | (go_at_call 16; refine Hsm.out.mono ?_; rintro e w8 ⟨rfl, hb8⟩
             have hgz := pat_groups (pat_keep Pz7.out hb8)
             have hgx := pat_groups (pat_keep Px7.out hb8)
             have Hb8 := Lib.hid hb8
             clear hb8)
          | fail)
  go_ret
  exact ⟨rfl, (HBW.out.trans (HB7.out.mono HBW.out.size)).trans (Hb8.out.mono (by have h1 := HBW.out.size; have h2 := HB7.out.size; omega))⟩
set_option maxHeartbeats 8000000 in
theorem rows_large (a b : ByteArray) (ha : a.size ≤ 150) (hb : b.size ≤ 150) (x : Nd) (g : Nat) (hA : ofP cls (nats a) = .ok false false x g) (y : Nd) (hB : ofP cls (nats b) = .ok false false y 0) (hg : goodP (.mk 3 0 0 0 0 (rowOf x ++ rowOf y)) g = false) (w : World) (hM : MaxAt w) : Calls Try.prog 7 #[.string a, .string b] w fun e w' => e = .returned (.bool true) ∧ Below w.heap.size w w' := by
  have hnat : nats ((a ++ ⟨#[124]⟩) ++ b : ByteArray) = nats a ++ 124 :: nats b := by rw [nats_add, nats_add]; simp; rfl
  have hofC := fun w hm => of_walk ((a ++ ⟨#[124]⟩) ++ b) w hm
  rw [hnat, of_rows hA hB (by rw [nats_length, nats_length]; omega), hg] at hofC
  have HofC := Lib.hid hofC
  clear hofC hg hnat
  have i1 : ¬ (150 : Int) < a.size := by omega
  have i2 : ¬ (150 : Int) < b.size := by omega
  have hofA := fun w hm => of_walk a w hm
  have hofB := fun w hm => of_walk b w hm
  rw [hA] at hofA
  rw [hB] at hofB
  have HofA := Lib.hid hofA
  have HofB := Lib.hid hofB
  clear hofA hofB hA hB
  go_enter Try.func7, Try.ntmps7
  go_wp2_with fail
  refine (awake6_any _ hM).mono ?_
  rintro e w1 ⟨rfl, hb1⟩
  have M1 := maxAt_below hM hb1
  go_wp2_with fail
  refine (HofA.out _ M1).mono ?_
  rintro e w2 ⟨cs, rfl, hatx, hb2⟩
  obtain ⟨kx, sx, lox, hix, nx, ax, lenx, capx, rfl⟩ := at_lit hatx
  simp only [patCells, List.cons_append, List.nil_append]
  have M2 : Hid (∀ o : Obj, MaxAt (w2.alloc o)) := fun o => maxAt_below M1 (hb2.alloc (by exact hb2.size) o)
  have Hb2 := Lib.hid (hb1.trans (hb2.mono hb1.size))
  clear hb2
  go_wp2_with fail
  refine (HofB.out _ (M2.out _)).mono ?_
  rintro e w3 ⟨cs, rfl, haty, hb3⟩
  obtain ⟨ky, sy, loy, hiy, ny, ay, leny, capy, rfl⟩ := at_lit haty
  simp only [patCells, List.cons_append, List.nil_append]
  have hpx := fun o : Obj => pat_keep (pat_keep (pat_new w2 #[.bool false, .bool false, .int .i64 kx, .int .u64 (word sx 0), .int .u64 (word sx 1), .int .u64 (word sx 2), .int .u64 (word sx 3), .int .i64 lox, .int .i64 hix, .int .i64 nx, .slice ax lenx capx, .int .i64 (g : Nat)]) hb3) ((Below.refl w3.heap.size w3).alloc (Nat.le_refl _) o)
  have hx0 := fun o : Obj => (pat_flags (hpx o)).1
  have hx1 := fun o : Obj => (pat_flags (hpx o)).2.1
  have hbx : Below w2.heap.size w2 w3 := ((Below.refl _ _).alloc (Nat.le_refl _) _).trans (hb3.mono (by simp))
  have HB3 : Hid (∀ o : Obj, Below w.heap.size w (w3.alloc o)) := fun o => (Hb2.out.trans (hbx.mono Hb2.out.size)).alloc (by have h1 := Hb2.out.size; have h2 := hbx.size; omega) o
  have M3 : Hid (∀ o : Obj, MaxAt (w3.alloc o)) := fun o => maxAt_below (maxAt_below (M2.out _) hb3) ((Below.refl _ _).alloc (Nat.le_refl _) o)
  clear hb3 hbx hpx hatx haty
  go_wp2_with fail
  refine (HofC.out _ (M3.out _)).mono ?_
  rintro e w4 ⟨rfl, hb4⟩
  have HB4 : Hid (∀ o : Obj, Below w.heap.size w (w4.alloc o)) := fun o => ((HB3.out _).trans (hb4.mono (HB3.out _).size)).alloc (by have h1 := (HB3.out (.deferred none)).size; have h2 := hb4.size; simp at h1 h2; omega) o
  clear hb4
  go_wp2_with fail
  go_ret
  exact ⟨rfl, HB4.out _⟩
theorem parseRows_walk (a b : ByteArray) (w : World) (hM : MaxAt w) : Calls Try.prog 7 #[.string a, .string b] w fun e w' => e = .returned (.bool true) ∧ Below w.heap.size w w' := by
  by_cases h : 150 < a.size ∨ 150 < b.size
  · exact rows_over a b h w hM
  have ha : a.size ≤ 150 := by omega
  have hb : b.size ≤ 150 := by omega
  cases hA : ofP cls (nats a) with
  | err k1 e1 =>
    cases hB : ofP cls (nats b) with
    | err k2 e2 => exact rows_ee a b ha hb k1 e1 k2 e2 hA hB (of_err hA) w hM
    | ok st en y g => exact rows_eo a b ha hb k1 e1 hA st en y g hB (of_err hA) w hM
  | ok st en x g =>
    cases hB : ofP cls (nats b) with
    | err k2 e2 => exact rows_oe a b ha hb st en x g hA k2 e2 hB (of_err hB) w hM
    | ok st2 en2 y g2 =>
      by_cases hs : st = true ∨ en = true ∨ st2 = true ∨ en2 = true ∨ 0 < g2
      · exact rows_skip a b ha hb st en x g hA st2 en2 y g2 hB hs w hM
      · have h1 : st = false := by cases st <;> simp_all
        have h2 : en = false := by cases en <;> simp_all
        have h3 : st2 = false := by cases st2 <;> simp_all
        have h4 : en2 = false := by cases en2 <;> simp_all
        have h5 : g2 = 0 := by omega
        subst h1 h2 h3 h4 h5
        cases hg : goodP (.mk 3 0 0 0 0 (rowOf x ++ rowOf y)) g with
        | false => exact rows_large a b ha hb x g hA y hB hg w hM
        | true =>
          by_cases hxk : x.kind = 3
          · by_cases hyk : y.kind = 3
            · exact rows_33 a b ha hb x g hA y hB hg hxk hyk w hM
            · exact rows_31 a b ha hb x g hA y hB hg hxk hyk w hM
          · by_cases hyk : y.kind = 3
            · exact rows_13 a b ha hb x g hA y hB hg hxk hyk w hM
            · exact rows_11 a b ha hb x g hA y hB hg hxk hyk w hM
end Go.Proofs.Ytjfenbjamlflcaa
