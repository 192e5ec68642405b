/- CapsWk, CapsWalk, CapsWalk2, CapsWalk3, CapsSpan, CapsOf, as one. -/
import Derived.Test.YtonhmjfopidacaaDoorCapsParts
import Derived.Laws.CopyRow
import Derived.Test.YtonhmjfopidacaaDoorHold
import Derived.Test.YtonhmjfopidacaaDoorHoldKit
import Derived.Test.YtonhmjfopidacaaDoorFree
import Derived.RegionTactic
import Derived.ChangeAlike
import Derived.BigRegion
import Derived.Test.YtonhmjfopidacaaDoorValGood
namespace Go.Proofs.YtonhmjfopidacaaDoor
namespace V
set_option maxRecDepth 100000
open Go.RowKit
abbrev neB (R : Nat) : Nat → Bool := fun k => decide (k ≠ R)
/-- a span, as it is told -/
def spOf (q : Int × Int) : Int × Int := (wrap64 q.1, wrap64 q.2)
/-- the walk in block R -/
def WkAt (w : World) (R : Nat) (p : Wk) : Prop := ∃ (cs : List Value) (z : Nat), w.heap[R]? = some (.cells cs.toArray 80) ∧ cs.length = 68 ∧ z < 2 ^ 33 ∧ cs[0]? = some (.int .i64 (wrap64 p.1)) ∧ cs[1]? = some (.int .u64 z) ∧
  ∀ n, n < 33 → ∃ f t : Int, cs[2 + n * 2]? = some (.int .i64 f) ∧ cs[2 + n * 2 + 1]? = some (.int .i64 t) ∧ (p.2 n).map spOf = if z.testBit n then some (f, t) else none
theorem WkAt.lt {w : World} {R : Nat} {p : Wk} (h : WkAt w R p) : R < w.heap.size := by
  obtain ⟨_, _, h, _⟩ := h
  exact lt_of_block h
theorem WkAt.same {w w' : World} {R : Nat} {p : Wk} (h : WkAt w R p) (hb : w'.heap[R]? = w.heap[R]?) : WkAt w' R p := by
  obtain ⟨cs, z, h1, h2⟩ := h
  exact ⟨cs, z, hb.trans h1, h2⟩
theorem WkAt.later {w w' : World} {R : Nat} {p : Wk} (h : WkAt w R p) (hb : Below w.heap.size w w') : WkAt w' R p := h.same (hb.block R h.lt)
theorem WkAt.eq {w : World} {R : Nat} {p q : Wk} (h : WkAt w R p) (e : p = q) : WkAt w R q := e ▸ h
/-- it stands elsewhere -/
theorem WkAt.put {w : World} {R : Nat} {p : Wk} (h : WkAt w R p) (a : Int) : WkAt (w.setCell ⟨R, 0, none⟩ (.int .i64 (wrap64 a))) R (a, p.2) := by
  obtain ⟨cs, z, h1, h2, h3, h4, h5, h6⟩ := h
  refine ⟨cs.set 0 (.int .i64 (wrap64 a)), z, ?_, by simpa using h2, h3, ?_, ?_, fun n hn => ?_⟩
  · rw [heap_setCell_same w R 0 _ _ _ h1]; simp
  · rw [List.getElem?_set_self (by omega)]
  · rw [List.getElem?_set_ne (by omega)]; exact h5
  · obtain ⟨f, t, g1, g2, g3⟩ := h6 n hn
    exact ⟨f, t, by rw [List.getElem?_set_ne (by omega)]; exact g1, by rw [List.getElem?_set_ne (by omega)]; exact g2, g3⟩
/-- without these bits -/
def andN (z m : Nat) : Nat := (BitVec.ofNat 64 z &&& ~~~BitVec.ofNat 64 m).toNat
theorem bits_andNot_nat (a b : Nat) : bits .andNot .u64 (a : Int) (b : Int) = ((andN a b : Nat) : Int) := by
  have hx : andN a b < 2 ^ 64 := BitVec.isLt _
  have e : ∀ c : Nat, BitVec.ofInt 64 (c : Int) = BitVec.ofNat 64 c := fun c => BitVec.ofInt_natCast 64 c
  show IntKind.u64.wrap ((BitVec.ofInt 64 (a : Int) &&& ~~~BitVec.ofInt 64 (b : Int)).toNat : Int) = _
  rw [e, e, IntKind.wrap_u64]
  show ((andN a b : Nat) : Int) % _ = _
  omega
theorem andN_bit (z m n : Nat) (hn : n < 64) : (andN z m).testBit n = (z.testBit n && !m.testBit n) := by
  unfold andN
  rw [BitVec.testBit_toNat, BitVec.getLsbD_and, BitVec.getLsbD_not, BitVec.getLsbD_ofNat, BitVec.getLsbD_ofNat]
  simp [hn]
theorem andN_lt (z m : Nat) (hz : z < 2 ^ 33) : andN z m < 2 ^ 33 := by
  unfold andN
  rw [BitVec.toNat_and]
  refine Nat.lt_of_le_of_lt Nat.and_le_left ?_
  rw [BitVec.toNat_ofNat]
  exact Nat.lt_of_le_of_lt (Nat.mod_le _ _) hz
/-- what lies in the block -/
def WkRaw (w : World) (R : Nat) (p : Wk) (cs : List Value) (z : Nat) : Prop := w.heap[R]? = some (.cells cs.toArray 80) ∧ cs.length = 68 ∧ z < 2 ^ 33 ∧ cs[0]? = some (.int .i64 (wrap64 p.1)) ∧ cs[1]? = some (.int .u64 z) ∧
  ∀ n, n < 33 → ∃ f t : Int, cs[2 + n * 2]? = some (.int .i64 f) ∧ cs[2 + n * 2 + 1]? = some (.int .i64 t) ∧ (p.2 n).map spOf = if z.testBit n then some (f, t) else none
theorem WkRaw.cells {w : World} {R : Nat} {p : Wk} {cs : List Value} {z : Nat} (h : WkRaw w R p cs z) : w.cell? ⟨R, 0, none⟩ = some (.int .i64 (wrap64 p.1)) ∧ w.cell? ⟨R, 1, none⟩ = some (.int .u64 z) ∧ ∀ o, w.frozen? ⟨R, o, none⟩ = false := by
  refine ⟨?_, ?_, fun o => by simp [World.frozen?, h.1]⟩
  · rw [cells_at h.1, List.getElem?_toArray]; exact h.2.2.2.1
  · rw [cells_at h.1, List.getElem?_toArray]; exact h.2.2.2.2.1
theorem WkAt.drop {w : World} {R : Nat} {p : Wk} {cs : List Value} {z : Nat} (h : WkRaw w R p cs z) (m : Nat) (g : Nat → Bool) (hg : ∀ t, m.testBit t = g t) :
    WkAt (w.setCell ⟨R, 1, none⟩ (.int .u64 (andN z m))) R (p.1, unsetG g p.2) := by
  obtain ⟨h1, h2, h3, h4, h5, h6⟩ := h
  refine ⟨cs.set 1 (.int .u64 (andN z m)), andN z m, ?_, by simpa using h2, andN_lt _ _ h3, ?_, ?_, fun n hn => ?_⟩
  · rw [heap_setCell_same w R 1 _ _ _ h1]; simp
  · rw [List.getElem?_set_ne (by omega)]; exact h4
  · rw [List.getElem?_set_self (by omega)]
  · obtain ⟨f, t, g1, g2, g3⟩ := h6 n hn
    refine ⟨f, t, by rw [List.getElem?_set_ne (by omega)]; exact g1, by rw [List.getElem?_set_ne (by omega)]; exact g2, ?_⟩
    rw [andN_bit _ _ _ (by omega), hg]
    show Option.map spOf (if g n then none else p.2 n) = _
    cases hgn : g n with
    | true => simp
    | false => simpa using g3
/-- a group set -/
theorem set_pair {α : Type} (l : List α) (o : Nat) (a b : α) (h : o + 2 ≤ l.length) : l.take o ++ [a, b] ++ l.drop (o + 2) = (l.set o a).set (o + 1) b := by
  apply List.ext_getElem?
  intro i
  have hlt : (l.take o).length = o := by rw [List.length_take]; omega
  rw [List.append_assoc, List.getElem?_append, hlt]
  by_cases hi : i < o
  · rw [if_pos hi, List.getElem?_take_of_lt hi, List.getElem?_set_ne (by omega), List.getElem?_set_ne (by omega)]
  · rw [if_neg hi]
    by_cases h0 : i = o
    · subst h0
      rw [Nat.sub_self, List.getElem?_set_ne (by omega), List.getElem?_set_self (by omega)]
      rfl
    · by_cases h1 : i = o + 1
      · subst h1
        rw [List.getElem?_set_self (by simp; omega), show o + 1 - o = 1 from by omega]
        rfl
      · rw [List.getElem?_set_ne (by omega), List.getElem?_set_ne (by omega), List.getElem?_append_right (by simp; omega), List.getElem?_drop]
        congr 1
        simp; omega
theorem infoSpan : (Tryd.prog.info? 47).map (·.size) = some 2 := by kernel_rfl
theorem storeSpan (w : World) (g off : Nat) (t : TypeId) (old : List Value) (a b : Value) (hg : w.heap[g]? = some (.cells old.toArray t (0, 0))) (ho : off + 2 ≤ old.length) (ha : a.oneCell' = true) (hb : b.oneCell' = true) :
    (storeVar 47 ⟨g, off, none⟩ (.agg #[a, b])).run Tryd.prog w = .ok () (w.setRow g ((old.set off a).set (off + 1) b).toArray) := by
  have h := run_storeCells_at Tryd.prog g off t [a, b] 0 old.toArray w hg (by simpa using ho) (fun v hv => by
    rcases List.mem_cons.1 hv with rfl | hv
    · exact ha
    · rw [List.mem_singleton] at hv; rw [hv]; exact hb)
  have hi := infoSpan
  cases hq : Tryd.prog.info? 47 with
  | none => simp [hq] at hi
  | some i =>
    have hs : i.size = 2 := by simpa [hq] using hi
    rw [Nat.add_zero, show (old.toArray).toList = old from rfl, show [a, b].length = 2 from rfl, set_pair _ _ _ _ ho] at h
    simp [storeVar, sizeOf, typeInfo, hq, Value.cells, hs, h]
theorem WkAt.set {w w1 : World} {R : Nat} {p : Wk} {cs : List Value} {z : Nat} (h : WkRaw w R p cs z) (n : Nat) (q : Int × Int) (hn : n < 33)
    (h1 : w1.heap[R]? = some (.cells ((cs.set (2 + n * 2) (.int .i64 (spOf q).1)).set (2 + n * 2 + 1) (.int .i64 (spOf q).2)).toArray 80)) :
    WkAt (w1.setCell ⟨R, 1, none⟩ (.int .u64 ((z ||| 2 ^ n : Nat) : Int))) R (p.1, setG n q p.2) := by
  obtain ⟨_, h2, h3, h4, h5, h6⟩ := h
  refine ⟨((cs.set (2 + n * 2) (.int .i64 (spOf q).1)).set (2 + n * 2 + 1) (.int .i64 (spOf q).2)).set 1 (.int .u64 ((z ||| 2 ^ n : Nat) : Int)), z ||| 2 ^ n, ?_, by simpa using h2, ?_, ?_, ?_, fun m hm => ?_⟩
  · rw [heap_setCell_same w1 R 1 _ _ _ h1]; simp
  · exact Nat.or_lt_two_pow h3 (Nat.pow_lt_pow_right (by decide) hn)
  · rw [List.getElem?_set_ne (by omega), List.getElem?_set_ne (by omega), List.getElem?_set_ne (by omega)]; exact h4
  · rw [List.getElem?_set_self (by simp; omega)]
  · obtain ⟨f, t, g1, g2, g3⟩ := h6 m hm
    show ∃ f t, _ ∧ _ ∧ Option.map spOf (if m = n then some q else p.2 m) = _
    rw [Nat.testBit_or, Nat.testBit_two_pow]
    by_cases e : m = n
    · subst e
      refine ⟨(spOf q).1, (spOf q).2, ?_, ?_, by simp⟩
      · rw [List.getElem?_set_ne (by omega), List.getElem?_set_ne (by omega), List.getElem?_set_self (by omega)]
      · rw [List.getElem?_set_ne (by omega), List.getElem?_set_self (by simp; omega)]
    · refine ⟨f, t, ?_, ?_, ?_⟩
      · rw [List.getElem?_set_ne (by omega), List.getElem?_set_ne (by omega), List.getElem?_set_ne (by omega)]; exact g1
      · rw [List.getElem?_set_ne (by omega), List.getElem?_set_ne (by omega), List.getElem?_set_ne (by omega)]; exact g2
      · rw [if_neg e, g3, decide_eq_false (fun e' => e e'.symm), Bool.or_false]
theorem WkAt.open {w : World} {R : Nat} {p : Wk} (h : WkAt w R p) : ∃ cs z, WkRaw w R p cs z := h
end V
end Go.Proofs.YtonhmjfopidacaaDoor
namespace Go.Proofs.YtonhmjfopidacaaDoor
namespace V
set_option maxRecDepth 100000
open Go.RowKit
/-- behind a walk: the block tells it, all else is as before -/
def CapPost (w : World) (R : Nat) (q : Wk) (e : Ending) (w' : World) : Prop := e = .returned (.tuple #[]) ∧ WkAt w' R q ∧ Kept R R w w'
def CapOk (R : Nat) (c : K.Cr) : Prop := ∀ (v : Vl) (pb po : Nat) (cs ds : List Value) (p : Wk) (w : World), bel c v = true → Part4 w pb po cs → pb ≠ R → PartOn (neB R) w c cs → ValOn (neB R) w v ds → WkAt w R p →
  Calls Tryd.prog 38 #[.pointer (some ⟨R, 0, none⟩), .pointer (some ⟨pb, po, none⟩), .agg ds.toArray] w (CapPost w R (cap c v p))
theorem part4_kept {R : Nat} {w w' : World} {pb po : Nat} {cs : List Value} (h : Part4 w pb po cs) (hk : Kept R R w w') (hne : pb ≠ R) : Part4 w' pb po cs := by
  refine ⟨h.1, fun q hq => ?_⟩
  have h0 := h.2 q hq
  rw [List.getElem?_eq_getElem (by rw [h.1]; exact hq)] at h0 ⊢
  have hlt := World.block_lt_of_cell? w _ h0
  rw [World.cell?_of_block (hk.block _ hlt hne hne)]
  exact h0
theorem PartOn.kept {R : Nat} {w w' : World} {c : K.Cr} {cs : List Value} (h : PartOn (neB R) w c cs) (hk : Kept R R w w') : PartOn (neB R) w' c cs :=
  h.mono hk.size fun k h1 h2 => ⟨h1, hk.block k h2 (of_decide_eq_true h1) (of_decide_eq_true h1)⟩
theorem ValOn.kept {R : Nat} {w w' : World} {v : Vl} {cs : List Value} (h : ValOn (neB R) w v cs) (hk : Kept R R w w') : ValOn (neB R) w' v cs :=
  h.mono hk.size fun k h1 h2 => ⟨h1, hk.block k h2 (of_decide_eq_true h1) (of_decide_eq_true h1)⟩
theorem part4_cells {w : World} {pb po : Nat} {v0 v1 v2 v3 : Value} (h : Part4 w pb po [v0, v1, v2, v3]) : w.cell? ⟨pb, po, none⟩ = some v0 ∧ w.cell? ⟨pb, po + 1, none⟩ = some v1 ∧ w.cell? ⟨pb, po + 2, none⟩ = some v2 ∧ w.cell? ⟨pb, po + 3, none⟩ = some v3 :=
  ⟨h.2 0 (by decide), h.2 1 (by decide), h.2 2 (by decide), h.2 3 (by decide)⟩
set_option maxHeartbeats 4000000 in
theorem renew_ok {R : Nat} {c : K.Cr} (hf : c.form = true) (hok : CapOk R c) (v : Vl) (pb po : Nat) (cs ds : List Value) (p : Wk) (w : World) (hbel : bel c v = true) (h4 : Part4 w pb po cs) (hne : pb ≠ R) (hp : PartOn (neB R) w c cs) (hv : ValOn (neB R) w v ds) (hw : WkAt w R p) :
    Calls Tryd.prog 56 #[.pointer (some ⟨R, 0, none⟩), .pointer (some ⟨pb, po, none⟩), .agg ds.toArray] w (CapPost w R (cap c v (p.1, unsetG (fun t => hasG t c) p.2))) := by
  obtain ⟨k1, z1, a1, len1, cap1, rfl⟩ := at_lit hv.at
  obtain ⟨k2, n2, a2, len2, cap2, rfl⟩ := part_lit hp.at
  obtain ⟨W, hW⟩ : ∃ W, W = (w.alloc (.cells #[.int .i64 k1, .int .u8 z1, .slice a1 len1 cap1] 39)) := ⟨_, rfl⟩
  have hal : Below w.heap.size w W := by rw [hW]; exact ((Below.refl _ _).alloc (Nat.le_refl _) _)
  have hk1 : Kept R R w W := Kept.of_below hal
  have hbx : ValIn W w.heap.size #[.int .i64 k1, .int .u8 z1, .slice a1 len1 cap1] := by rw [hW]; exact World.alloc_heap_new w _
  obtain ⟨rs, z, hraw⟩ := (hw.later hal).open
  obtain ⟨_, q1, q2⟩ := hraw.cells
  obtain ⟨_, _, p2, _⟩ := part4_cells (part4_kept h4 hk1 hne)
  have hlt := hw.lt
  have hzl := hraw.2.2.1
  have hgl := gb_lt c hf
  have hand := bits_andNot_nat z (gb c)
  have hd := WkAt.drop hraw (gb c) (fun t => hasG t c) (fun t => gb_bit t c hf)
  obtain ⟨W2, hW2⟩ : ∃ W2, W2 = (W.setCell ⟨R, 1, none⟩ (.int .u64 (andN z (gb c)))).drew := ⟨_, rfl⟩
  replace hd : WkAt W2 R (p.1, unsetG (fun t => hasG t c) p.2) := by rw [hW2]; exact hd.later ((Below.refl _ _).drew)
  have hk2 : Kept R R w W2 := hk1.trans ((Kept.of_only (R := R) (g := R) (only_set W R 1 (.int .u64 (andN z (gb c))))).trans (by rw [hW2]; exact Kept.of_below ((Below.refl _ _).drew)))
  have hbx2 : ValIn W2 w.heap.size #[.int .i64 k1, .int .u8 z1, .slice a1 len1 cap1] := by
    rw [hW2]; exact (show (W.setCell ⟨R, 1, none⟩ (.int .u64 (andN z (gb c)))).heap[w.heap.size]? = _ from heap_setCell_other _ _ _ _ (by show w.heap.size ≠ R; omega)).trans hbx
  have hcall := hok v pb po _ _ _ W2 hbel (part4_kept h4 hk2 hne) hne (hp.kept hk2) (hv.kept hk2) hd
  have Hc := Lib.hid (And.intro hcall hk2)
  have Hbx := Lib.hid (val3_in (cs := [.int .i64 k1, .int .u8 z1, .slice a1 len1 cap1]) hbx2 rfl)
  clear hcall hk2 hbx2 hbx hd hraw hk1 hal hw hv hp h4 hlt hgl hzl hok hf hbel hne
  generalize gb c = gz at *
  generalize andN z gz = az at *
  go_enter Tryd.func56, Tryd.ntmps56
  go_upto_region 1 with fail
  rw [← hW]
  clear hW
  go_region
  rw [← hW2]
  clear hW2
  go_wp2_with (first
    | (refine wpList_load_val rfl _ rfl w.heap.size 0 _ rfl Hbx.out ?_)
    | fail)
  refine Hc.out.1.mono ?_
  rintro e w' ⟨rfl, h1, h2⟩
  go_wp2_with fail
  refine bodyPost_ret (v := .tuple #[]) (by simp [results, Tryd.results56, go_sem]) rfl ⟨rfl, h1, Hc.out.2.trans h2⟩
/-- the kinds, and how many parts -/
theorem form_kinds {k : Int} {st : BitVec 256} {n : Int} {l : List K.Cr} (h : (K.Cr.mk k st n l).form = true) : (∀ y ∈ l, y.form = true) ∧ 0 ≤ n ∧ n ≤ 32 ∧
    ((k = 0 ∨ k = 1) ∧ l = [] ∨ k = 2 ∧ l = [] ∨ (k = 3 ∨ k = 4) ∧ (∃ x y, l = [x, y]) ∨ (k = 5 ∨ k = 6 ∨ k = 7) ∧ ∃ x, l = [x]) := by
  rw [K.form_mk, Bool.and_eq_true] at h
  obtain ⟨hp, hf⟩ := h
  obtain ⟨hn0, hn32, _, _, _⟩ := part_n hp
  refine ⟨forms_mem hf, hn0, hn32, ?_⟩
  unfold K.partOk at hp
  rw [Bool.and_eq_true] at hp
  have hp := hp.2
  by_cases h0 : k = 0 ∨ k = 1 ∨ k = 2
  · rw [if_pos h0, decide_eq_true_eq, List.length_eq_zero_iff] at hp
    rcases h0 with h0 | h0 | h0
    · exact .inl ⟨.inl h0, hp⟩
    · exact .inl ⟨.inr h0, hp⟩
    · exact .inr (.inl ⟨h0, hp⟩)
  rw [if_neg h0] at hp
  by_cases h3 : k = 3 ∨ k = 4
  · rw [if_pos h3, decide_eq_true_eq] at hp
    match l, hp with
    | [x, y], _ => exact .inr (.inr (.inl ⟨h3, x, y, rfl⟩))
  rw [if_neg h3] at hp
  by_cases h5 : k = 5 ∨ k = 7
  · rw [if_pos h5, decide_eq_true_eq] at hp
    match l, hp with
    | [x], _ => exact .inr (.inr (.inr ⟨by omega, x, rfl⟩))
  rw [if_neg h5] at hp
  by_cases h6 : k = 6
  · rw [if_pos h6, Bool.and_eq_true, Bool.and_eq_true, decide_eq_true_eq] at hp
    match l, hp with
    | [x], _ => exact .inr (.inr (.inr ⟨by omega, x, rfl⟩))
  · rw [if_neg h6] at hp; cases hp
/-- a part's cells, and its parts -/
theorem part_kids {R : Nat} {w : World} {k : Int} {st : BitVec 256} {n : Int} {l : List K.Cr} {cs : List Value} (h : PartOn (neB R) w (.mk k st n l) cs) : ∃ (a : Option Addr) (cap : Nat), cs = [.int .i64 k, .int .i64 n, .int .u64 (gb (.mk k st n l)), .slice a l.length cap] ∧
    ∀ j (hj : j < l.length), ∃ (b off : Nat) (ps : List Value), a = some ⟨b, off, none⟩ ∧ l.length ≤ cap ∧ b ≠ R ∧ Part4 w b (off + j * 4) ps ∧ PartOn (neB R) w l[j] ps := by
  unfold PartOn at h
  rw [partAt_mk] at h
  obtain ⟨a, cap, e, _, h3⟩ := h
  refine ⟨a, cap, e, fun j hj => ?_⟩
  obtain ⟨b, off, rfl, hc, _, hp⟩ := h3.resolve_left (by omega)
  obtain ⟨ps, hps, hat⟩ := parts_get (dim (neB R) w) b l off hp j hj
  have hc0 : ∀ q, q < 4 → b ≠ R ∧ w.cell? ⟨b, off + j * 4 + q, none⟩ = ps[q]? := fun q hq => by
    have h0 := hps.2 q hq
    rw [List.getElem?_eq_getElem (by rw [hps.1]; exact hq)] at h0 ⊢
    have h1 := dim_cell h0
    exact ⟨of_decide_eq_true h1.1, h1.2⟩
  exact ⟨b, off, ps, rfl, hc, (hc0 0 (by decide)).1, ⟨hps.1, fun q hq => (hc0 q hq).2⟩, hat⟩
/-- a value's cells, and its values -/
theorem val_kids {R : Nat} {w : World} {k : Int} {z : Nat} {l : List Vl} {cs : List Value} (h : ValOn (neB R) w (.mk k z l) cs) : ∃ (a : Option Addr) (cap : Nat), cs = [.int .i64 k, .int .u8 z, .slice a l.length cap] ∧ l.length ≤ maxLen ∧
    ∀ j (hj : j < l.length), ∃ (b off : Nat) (ps : List Value), a = some ⟨b, off, none⟩ ∧ l.length ≤ cap ∧ b ≠ R ∧ Val3 w b (off + j * 3) ps ∧ ValOn (neB R) w l[j] ps := by
  unfold ValOn at h
  rw [at_mk] at h
  obtain ⟨_, _, a, cap, e, hm, h3⟩ := h
  refine ⟨a, cap, e, hm, fun j hj => ?_⟩
  obtain ⟨b, off, rfl, hc, _, hp⟩ := h3.resolve_left (by omega)
  obtain ⟨ps, hps, hat⟩ := vals_get (dim (neB R) w) b l off hp j hj
  have hc0 : ∀ q, q < 3 → b ≠ R ∧ w.cell? ⟨b, off + j * 3 + q, none⟩ = ps[q]? := fun q hq => by
    have h0 := hps.2 q hq
    rw [List.getElem?_eq_getElem (by rw [hps.1]; exact hq)] at h0 ⊢
    have h1 := dim_cell h0
    exact ⟨of_decide_eq_true h1.1, h1.2⟩
  exact ⟨b, off, ps, rfl, hc, (hc0 0 (by decide)).1, ⟨hps.1, fun q hq => (hc0 q hq).2⟩, hat⟩
theorem val_kids0 {R : Nat} {w : World} {k : Int} {l : List Vl} {cs : List Value} (h : ValOn (neB R) w (.mk k 0 l) cs) : ∃ (a : Option Addr) (cap : Nat), cs = [.int .i64 k, .int .u8 0, .slice a l.length cap] ∧ l.length ≤ maxLen ∧
    ∀ j (hj : j < l.length), ∃ (b off : Nat) (ps : List Value), a = some ⟨b, off, none⟩ ∧ l.length ≤ cap ∧ b ≠ R ∧ Val3 w b (off + j * 3) ps ∧ ValOn (neB R) w l[j] ps := val_kids h
theorem val3_kept {R : Nat} {w w' : World} {pb po : Nat} {cs : List Value} (h : Val3 w pb po cs) (hk : Kept R R w w') (hne : pb ≠ R) : Val3 w' pb po cs := by
  refine ⟨h.1, fun q hq => ?_⟩
  have h0 := h.2 q hq
  rw [List.getElem?_eq_getElem (by rw [h.1]; exact hq)] at h0 ⊢
  have hlt := World.block_lt_of_cell? w _ h0
  rw [World.cell?_of_block (hk.block _ hlt hne hne)]
  exact h0
theorem wrap_add (a b : Int) : wrap64 (wrap64 a + b) = wrap64 (a + b) := by
  unfold wrap64
  omega
set_option maxHeartbeats 4000000 in
theorem value_set {R : Nat} {st : BitVec 256} {n : Int} : CapOk R (.mk 2 st n []) := by
  intro v pb po cs ds p w hbel h4 hne hp hv hw
  obtain ⟨k1, z1, a1, len1, cap1, rfl⟩ := at_lit hv.at
  obtain ⟨a2, cap2, rfl, _⟩ := part_kids hp
  obtain ⟨W, hW⟩ : ∃ W, W = (w.alloc (.cells #[.int .i64 k1, .int .u8 z1, .slice a1 len1 cap1] 39)) := ⟨_, rfl⟩
  have hal : Below w.heap.size w W := by rw [hW]; exact ((Below.refl _ _).alloc (Nat.le_refl _) _)
  obtain ⟨rs, z, hraw⟩ := (hw.later hal).open
  obtain ⟨q0, q1, q2⟩ := hraw.cells
  have hput := (hw.later hal).put (p.1 + 1)
  obtain ⟨p0, _, _, _⟩ := part4_cells (part4_kept h4 (Kept.of_below hal) hne)
  have e : cap (.mk 2 st n []) v p = (p.1 + 1, p.2) := by
    cases v; rw [cap_mk]; rfl
  rw [e]
  have hwa := wrap_add p.1 1
  have Hend := Lib.hid (And.intro hput ((Kept.of_below (R := R) (g := R) hal).trans (Kept.of_only (only_set W R 0 (.int .i64 (wrap64 (p.1 + 1)))))))
  clear hput hal hraw hw hv hp h4 hne hbel e q1
  generalize wrap64 (p.1 + 1) = a' at *
  generalize wrap64 p.1 = a0 at *
  go_enter Tryd.func38, Tryd.ntmps38
  go_upto_region 1 with fail
  rw [← hW]
  clear hW
  go_wp2_with fail
  refine bodyPost_ret (v := .tuple #[]) (by simp [results, Tryd.results38, go_sem]) rfl ⟨rfl, Hend.out.1, Hend.out.2⟩
/-- the call of a part's walk, wherever all but R is as it was -/
theorem CapOk.call {R : Nat} {c : K.Cr} (h : CapOk R c) {v : Vl} {pb po : Nat} {cs ds : List Value} {W : World} (hbel : bel c v = true) (h4 : Part4 W pb po cs) (hne : pb ≠ R) (hp : PartOn (neB R) W c cs) (hv : ValOn (neB R) W v ds) : ∀ (w : World), Kept R R W w → ∀ p : Wk, WkAt w R p →
    Calls Tryd.prog 38 #[.pointer (some ⟨R, 0, none⟩), .pointer (some ⟨pb, po, none⟩), .agg ds.toArray] w (CapPost w R (cap c v p)) := fun w hk p hw =>
  h v pb po cs ds p w hbel (part4_kept h4 hk hne) hne (hp.kept hk) (hv.kept hk) hw
--GEN
set_option maxHeartbeats 4000000 in
theorem value_cat {R : Nat} {st : BitVec 256} {n : Int} {x y : K.Cr} (hx : CapOk R x) (hy : CapOk R y) : CapOk R (.mk 3 st n [x, y]) := by
  intro v pb po cs ds p w hbel h4 hne hp hv hw
  obtain ⟨v1, v2, rfl, hb1, hb2⟩ := bel_three hbel
  obtain ⟨W, hW⟩ : ∃ W, W = (w.alloc (.cells ds.toArray 39)) := ⟨_, rfl⟩
  have hal : Below w.heap.size w W := by rw [hW]; exact ((Below.refl _ _).alloc (Nat.le_refl _) _)
  have hk : Kept R R w W := Kept.of_below hal
  have hlt := hw.lt
  have hbx : ValIn W w.heap.size ds.toArray := by rw [hW]; exact World.alloc_heap_new w _
  have hbR : w.heap.size ≠ R := by omega
  have hp4 := part4_kept h4 hk hne
  obtain ⟨a1, cap1, rfl, hml, hkv⟩ := val_kids0 (hv.kept hk)
  obtain ⟨a2, cap2, rfl, hkp⟩ := part_kids (hp.kept hk)
  obtain ⟨vb, vo, ds1, rfl, hcv, hvb, hd1, ho1⟩ := hkv 0 (by simp)
  obtain ⟨_, _, ds2, e, _, _, hd2, ho2⟩ := hkv 1 (by simp)
  injection e with e; injection e with e1 e2; subst e1 e2
  obtain ⟨qb, qo, cs1, rfl, hcp, hqb, hc1, hp1⟩ := hkp 0 (by simp)
  obtain ⟨_, _, cs2, e, _, _, hc2, hp2⟩ := hkp 1 (by simp)
  injection e with e; injection e with e1 e2; subst e1 e2
  simp only [Nat.zero_mul, Nat.add_zero, Nat.one_mul, List.getElem_cons_zero, List.getElem_cons_succ] at hc1 hp1 hd1 ho1 hd2 ho2 hc2 hp2
  have hbx3 : Val3 W w.heap.size 0 [.int .i64 3, .int .u8 0, .slice (some ⟨vb, vo, none⟩) 2 cap1] := val3_in hbx rfl
  have hcv1 : (2 : Int) ≤ cap1 := by simp at hcv; omega
  have hcp1 : (2 : Int) ≤ cap2 := by simp at hcp; omega
  have e : cap (.mk 3 st n [x, y]) (.mk 3 0 [v1, v2]) p = cap y v2 (cap x v1 p) := by rw [cap_mk]; rfl
  rw [e]
  have hq1 := hx.call hb1 hc1 hqb hp1 ho1
  have hq2 := hy.call hb2 hc2 hqb hp2 ho2
  obtain ⟨k1, z1, b1, len1, c1, rfl⟩ := at_lit ho1.at
  obtain ⟨k2, z2, b2, len2, c2, rfl⟩ := at_lit ho2.at
  have f0 : ∀ w', Kept R R W w' → w'.cell? ⟨w.heap.size, 0, none⟩ = some (.int .i64 3) ∧ w'.cell? ⟨w.heap.size, 2, none⟩ = some (.slice (some ⟨vb, vo, none⟩) 2 cap1) := fun w' h => ⟨(val3_kept hbx3 h hbR).2 0 (by decide), (val3_kept hbx3 h hbR).2 2 (by decide)⟩
  have f1 : ∀ w', Kept R R W w' → w'.cell? ⟨vb, vo, none⟩ = some (.int .i64 k1) ∧ w'.cell? ⟨vb, vo + 1, none⟩ = some (.int .u8 z1) ∧ w'.cell? ⟨vb, vo + 2, none⟩ = some (.slice b1 len1 c1) := fun w' h => by
    have h := val3_kept hd1 h hvb
    exact ⟨h.2 0 (by decide), h.2 1 (by decide), h.2 2 (by decide)⟩
  have f2 : ∀ w', Kept R R W w' → w'.cell? ⟨vb, vo + 3, none⟩ = some (.int .i64 k2) ∧ w'.cell? ⟨vb, vo + 4, none⟩ = some (.int .u8 z2) ∧ w'.cell? ⟨vb, vo + 5, none⟩ = some (.slice b2 len2 c2) := fun w' h => by
    have h := val3_kept hd2 h hvb
    exact ⟨h.2 0 (by decide), h.2 1 (by decide), h.2 2 (by decide)⟩
  have fp : ∀ w', Kept R R W w' → w'.cell? ⟨pb, po, none⟩ = some (.int .i64 3) ∧ w'.cell? ⟨pb, po + 1, none⟩ = some (.int .i64 n) ∧ w'.cell? ⟨pb, po + 3, none⟩ = some (.slice (some ⟨qb, qo, none⟩) 2 cap2) := fun w' h => by
    have h := part4_cells (part4_kept hp4 h hne)
    exact ⟨h.1, h.2.1, h.2.2.2⟩
  have F0 := Lib.hid f0
  have F1 := Lib.hid f1
  have F2 := Lib.hid f2
  have FP := Lib.hid fp
  have Hq := Lib.hid (And.intro hq1 hq2)
  have Hw := Lib.hid (And.intro (hw.later hal) (And.intro hk hal))
  obtain ⟨g0, _, _⟩ := fp W (Kept.refl _ _ _)
  clear hq1 hq2 f0 f1 f2 fp hbx3 hbx hal hk hkv hkp hd1 ho1 hd2 ho2 hc1 hc2 hp1 hp2 hp4 e hw hv hp h4 hbel hb1 hb2 hx hy hml
  go_enter Tryd.func38, Tryd.ntmps38
  go_upto_region 1 with fail
  simp only [List.length_cons, List.length_nil, Nat.zero_add, Nat.reduceAdd] at hW ⊢
  rw [← hW]
  clear hW
  go_upto_region 5 with fail
  obtain ⟨_, b2W⟩ := F0.out _ (Kept.refl _ _ _)
  obtain ⟨u0W, u1W, u2W⟩ := F1.out _ (Kept.refl _ _ _)
  obtain ⟨_, _, g3W⟩ := FP.out _ (Kept.refl _ _ _)
  go_cut [] from 24 to 34 (fun wx => WkAt wx R (cap x v1 p) ∧ Kept R R W wx)
  case first =>
    go_region_with (first
      | (go_at_call 38; refine (Hq.out.1 _ (((Kept.refl R R W)).trans (Kept.of_below ((Below.refl _ _).drew))) _ ((Hw.out.1).later ((Below.refl _ _).drew))).mono ?_; rintro e w1 ⟨rfl, h1, h2⟩; have H1 := Lib.hid (And.intro h1 ((((Kept.refl R R W)).trans (Kept.of_below (R := R) (g := R) ((Below.refl W.heap.size W).drew))).trans h2)); clear h1 h2)
      | fail)
    all_goals
      go_wp2_with fail
      go_meet
      exact H1.out
  case rest =>
  obtain ⟨wa, rfl⟩ : ∃ wa, wa = wc := ⟨_, rfl⟩
  have Hwa := Lib.hid hcut
  clear hcut
  obtain ⟨_, b2wa⟩ := F0.out _ (Hwa.out.2)
  obtain ⟨u0wa, u1wa, u2wa⟩ := F2.out _ (Hwa.out.2)
  obtain ⟨_, _, g3wa⟩ := FP.out _ (Hwa.out.2)
  go_upto_region 6 with fail
  go_region_with (first
    | (go_at_call 38; refine (Hq.out.2 _ ((Hwa.out.2).trans (Kept.of_below ((Below.refl _ _).drew))) _ ((Hwa.out.1).later ((Below.refl _ _).drew))).mono ?_; rintro e w1 ⟨rfl, h1, h2⟩; have H1 := Lib.hid (And.intro h1 (((Hwa.out.2).trans (Kept.of_below (R := R) (g := R) ((Below.refl wa.heap.size wa).drew))).trans h2)); clear h1 h2)
    | fail)
  all_goals
    go_wp2_with fail
  all_goals
    refine bodyPost_ret (v := .tuple #[]) (by simp [results, Tryd.results38, go_sem]) rfl ⟨rfl, H1.out.1, Hw.out.2.1.trans H1.out.2⟩
set_option maxHeartbeats 4000000 in
theorem value_left {R : Nat} {st : BitVec 256} {n : Int} {x y : K.Cr} (hx : CapOk R x) {v1 : Vl} (hb1 : bel x v1 = true) {pb po : Nat} {cs ds : List Value} {p : Wk} {w : World} (h4 : Part4 w pb po cs) (hne : pb ≠ R) (hp : PartOn (neB R) w (.mk 4 st n [x, y]) cs) (hv : ValOn (neB R) w (.mk 4 0 [v1]) ds) (hw : WkAt w R p) :
    Calls Tryd.prog 38 #[.pointer (some ⟨R, 0, none⟩), .pointer (some ⟨pb, po, none⟩), .agg ds.toArray] w (CapPost w R (cap (.mk 4 st n [x, y]) (.mk 4 0 [v1]) p)) := by
  obtain ⟨W, hW⟩ : ∃ W, W = (w.alloc (.cells ds.toArray 39)) := ⟨_, rfl⟩
  have hal : Below w.heap.size w W := by rw [hW]; exact ((Below.refl _ _).alloc (Nat.le_refl _) _)
  have hk : Kept R R w W := Kept.of_below hal
  have hlt := hw.lt
  have hbx : ValIn W w.heap.size ds.toArray := by rw [hW]; exact World.alloc_heap_new w _
  have hbR : w.heap.size ≠ R := by omega
  have hp4 := part4_kept h4 hk hne
  obtain ⟨a1, cap1, rfl, hml, hkv⟩ := val_kids0 (hv.kept hk)
  obtain ⟨a2, cap2, rfl, hkp⟩ := part_kids (hp.kept hk)
  obtain ⟨vb, vo, ds1, rfl, hcv, hvb, hd1, ho1⟩ := hkv 0 (by simp)
  obtain ⟨qb, qo, cs1, rfl, hcp, hqb, hc1, hp1⟩ := hkp 0 (by simp)
  obtain ⟨_, _, cs2, e, _, _, hc2, hp2⟩ := hkp 1 (by simp)
  injection e with e; injection e with e1 e2; subst e1 e2
  simp only [Nat.zero_mul, Nat.add_zero, Nat.one_mul, List.getElem_cons_zero, List.getElem_cons_succ] at hc1 hp1 hd1 ho1 hc2 hp2
  have hbx3 : Val3 W w.heap.size 0 [.int .i64 4, .int .u8 0, .slice (some ⟨vb, vo, none⟩) 1 cap1] := val3_in hbx rfl
  have hcv1 : (1 : Int) ≤ cap1 := by simp at hcv; omega
  have hcp1 : (2 : Int) ≤ cap2 := by simp at hcp; omega
  have e : cap (.mk 4 st n [x, y]) (.mk 4 0 [v1]) p = cap x v1 p := by rw [cap_mk]; rfl
  rw [e]
  have hq1 := hx.call hb1 hc1 hqb hp1 ho1
  obtain ⟨k1, z1, b1, len1, c1, rfl⟩ := at_lit ho1.at
  have f0 : ∀ w', Kept R R W w' → w'.cell? ⟨w.heap.size, 0, none⟩ = some (.int .i64 4) ∧ w'.cell? ⟨w.heap.size, 2, none⟩ = some (.slice (some ⟨vb, vo, none⟩) 1 cap1) := fun w' h => ⟨(val3_kept hbx3 h hbR).2 0 (by decide), (val3_kept hbx3 h hbR).2 2 (by decide)⟩
  have f1 : ∀ w', Kept R R W w' → w'.cell? ⟨vb, vo, none⟩ = some (.int .i64 k1) ∧ w'.cell? ⟨vb, vo + 1, none⟩ = some (.int .u8 z1) ∧ w'.cell? ⟨vb, vo + 2, none⟩ = some (.slice b1 len1 c1) := fun w' h => by
    have h := val3_kept hd1 h hvb
    exact ⟨h.2 0 (by decide), h.2 1 (by decide), h.2 2 (by decide)⟩
  have fp : ∀ w', Kept R R W w' → w'.cell? ⟨pb, po, none⟩ = some (.int .i64 4) ∧ w'.cell? ⟨pb, po + 1, none⟩ = some (.int .i64 n) ∧ w'.cell? ⟨pb, po + 3, none⟩ = some (.slice (some ⟨qb, qo, none⟩) 2 cap2) := fun w' h => by
    have h := part4_cells (part4_kept hp4 h hne)
    exact ⟨h.1, h.2.1, h.2.2.2⟩
  have F0 := Lib.hid f0
  have F1 := Lib.hid f1
  have FP := Lib.hid fp
  have Hq := Lib.hid hq1
  have Hw := Lib.hid (And.intro (hw.later hal) (And.intro hk hal))
  obtain ⟨g0, _, _⟩ := fp W (Kept.refl _ _ _)
  obtain ⟨b0, _⟩ := f0 W (Kept.refl _ _ _)
  clear hq1 f0 f1 fp hbx3 hbx hal hk hkv hkp hd1 ho1 hc1 hc2 hp1 hp2 hp4 e hw hv hp h4 hb1 hx hml
  go_enter Tryd.func38, Tryd.ntmps38
  go_upto_region 1 with fail
  simp only [List.length_cons, List.length_nil, Nat.zero_add] at hW ⊢
  rw [← hW]
  clear hW
  obtain ⟨_, b2W⟩ := F0.out _ (Kept.refl _ _ _)
  obtain ⟨u0W, u1W, u2W⟩ := F1.out _ (Kept.refl _ _ _)
  obtain ⟨_, _, g3W⟩ := FP.out _ (Kept.refl _ _ _)
  go_upto_region 9 with fail
  go_region_with (first
    | (go_at_call 38; refine (Hq.out _ (((Kept.refl R R W)).trans (Kept.of_below ((Below.refl _ _).drew))) _ ((Hw.out.1).later ((Below.refl _ _).drew))).mono ?_; rintro e w1 ⟨rfl, h1, h2⟩; have H1 := Lib.hid (And.intro h1 ((((Kept.refl R R W)).trans (Kept.of_below (R := R) (g := R) ((Below.refl W.heap.size W).drew))).trans h2)); clear h1 h2)
    | fail)
  all_goals
    go_wp2_with fail
  all_goals
    refine bodyPost_ret (v := .tuple #[]) (by simp [results, Tryd.results38, go_sem]) rfl ⟨rfl, H1.out.1, Hw.out.2.1.trans H1.out.2⟩
set_option maxHeartbeats 4000000 in
theorem value_right {R : Nat} {st : BitVec 256} {n : Int} {x y : K.Cr} (hx : CapOk R y) {v1 : Vl} (hb1 : bel y v1 = true) {pb po : Nat} {cs ds : List Value} {p : Wk} {w : World} (h4 : Part4 w pb po cs) (hne : pb ≠ R) (hp : PartOn (neB R) w (.mk 4 st n [x, y]) cs) (hv : ValOn (neB R) w (.mk 5 0 [v1]) ds) (hw : WkAt w R p) :
    Calls Tryd.prog 38 #[.pointer (some ⟨R, 0, none⟩), .pointer (some ⟨pb, po, none⟩), .agg ds.toArray] w (CapPost w R (cap (.mk 4 st n [x, y]) (.mk 5 0 [v1]) p)) := by
  obtain ⟨W, hW⟩ : ∃ W, W = (w.alloc (.cells ds.toArray 39)) := ⟨_, rfl⟩
  have hal : Below w.heap.size w W := by rw [hW]; exact ((Below.refl _ _).alloc (Nat.le_refl _) _)
  have hk : Kept R R w W := Kept.of_below hal
  have hlt := hw.lt
  have hbx : ValIn W w.heap.size ds.toArray := by rw [hW]; exact World.alloc_heap_new w _
  have hbR : w.heap.size ≠ R := by omega
  have hp4 := part4_kept h4 hk hne
  obtain ⟨a1, cap1, rfl, hml, hkv⟩ := val_kids0 (hv.kept hk)
  obtain ⟨a2, cap2, rfl, hkp⟩ := part_kids (hp.kept hk)
  obtain ⟨vb, vo, ds1, rfl, hcv, hvb, hd1, ho1⟩ := hkv 0 (by simp)
  obtain ⟨qb, qo, cs1, rfl, hcp, hqb, hc1, hp1⟩ := hkp 0 (by simp)
  obtain ⟨_, _, cs2, e, _, _, hc2, hp2⟩ := hkp 1 (by simp)
  injection e with e; injection e with e1 e2; subst e1 e2
  simp only [Nat.zero_mul, Nat.add_zero, Nat.one_mul, List.getElem_cons_zero, List.getElem_cons_succ] at hc1 hp1 hd1 ho1 hc2 hp2
  have hbx3 : Val3 W w.heap.size 0 [.int .i64 5, .int .u8 0, .slice (some ⟨vb, vo, none⟩) 1 cap1] := val3_in hbx rfl
  have hcv1 : (1 : Int) ≤ cap1 := by simp at hcv; omega
  have hcp1 : (2 : Int) ≤ cap2 := by simp at hcp; omega
  have e : cap (.mk 4 st n [x, y]) (.mk 5 0 [v1]) p = cap y v1 p := by rw [cap_mk]; rfl
  rw [e]
  have hq1 := hx.call hb1 hc2 hqb hp2 ho1
  obtain ⟨k1, z1, b1, len1, c1, rfl⟩ := at_lit ho1.at
  have f0 : ∀ w', Kept R R W w' → w'.cell? ⟨w.heap.size, 0, none⟩ = some (.int .i64 5) ∧ w'.cell? ⟨w.heap.size, 2, none⟩ = some (.slice (some ⟨vb, vo, none⟩) 1 cap1) := fun w' h => ⟨(val3_kept hbx3 h hbR).2 0 (by decide), (val3_kept hbx3 h hbR).2 2 (by decide)⟩
  have f1 : ∀ w', Kept R R W w' → w'.cell? ⟨vb, vo, none⟩ = some (.int .i64 k1) ∧ w'.cell? ⟨vb, vo + 1, none⟩ = some (.int .u8 z1) ∧ w'.cell? ⟨vb, vo + 2, none⟩ = some (.slice b1 len1 c1) := fun w' h => by
    have h := val3_kept hd1 h hvb
    exact ⟨h.2 0 (by decide), h.2 1 (by decide), h.2 2 (by decide)⟩
  have fp : ∀ w', Kept R R W w' → w'.cell? ⟨pb, po, none⟩ = some (.int .i64 4) ∧ w'.cell? ⟨pb, po + 1, none⟩ = some (.int .i64 n) ∧ w'.cell? ⟨pb, po + 3, none⟩ = some (.slice (some ⟨qb, qo, none⟩) 2 cap2) := fun w' h => by
    have h := part4_cells (part4_kept hp4 h hne)
    exact ⟨h.1, h.2.1, h.2.2.2⟩
  have F0 := Lib.hid f0
  have F1 := Lib.hid f1
  have FP := Lib.hid fp
  have Hq := Lib.hid hq1
  have Hw := Lib.hid (And.intro (hw.later hal) (And.intro hk hal))
  obtain ⟨g0, _, _⟩ := fp W (Kept.refl _ _ _)
  obtain ⟨b0, _⟩ := f0 W (Kept.refl _ _ _)
  clear hq1 f0 f1 fp hbx3 hbx hal hk hkv hkp hd1 ho1 hc1 hc2 hp1 hp2 hp4 e hw hv hp h4 hb1 hx hml
  go_enter Tryd.func38, Tryd.ntmps38
  go_upto_region 1 with fail
  simp only [List.length_cons, List.length_nil, Nat.zero_add] at hW ⊢
  rw [← hW]
  clear hW
  obtain ⟨_, b2W⟩ := F0.out _ (Kept.refl _ _ _)
  obtain ⟨u0W, u1W, u2W⟩ := F1.out _ (Kept.refl _ _ _)
  obtain ⟨_, _, g3W⟩ := FP.out _ (Kept.refl _ _ _)
  go_upto_region 10 with fail
  go_region_with (first
    | (go_at_call 38; refine (Hq.out _ (((Kept.refl R R W)).trans (Kept.of_below ((Below.refl _ _).drew))) _ ((Hw.out.1).later ((Below.refl _ _).drew))).mono ?_; rintro e w1 ⟨rfl, h1, h2⟩; have H1 := Lib.hid (And.intro h1 ((((Kept.refl R R W)).trans (Kept.of_below (R := R) (g := R) ((Below.refl W.heap.size W).drew))).trans h2)); clear h1 h2)
    | fail)
  all_goals
    go_wp2_with fail
  all_goals
    refine bodyPost_ret (v := .tuple #[]) (by simp [results, Tryd.results38, go_sem]) rfl ⟨rfl, H1.out.1, Hw.out.2.1.trans H1.out.2⟩
theorem value_alt {R : Nat} {st : BitVec 256} {n : Int} {x y : K.Cr} (hx : CapOk R x) (hy : CapOk R y) : CapOk R (.mk 4 st n [x, y]) := by
  intro v pb po cs ds p w hbel h4 hne hp hv hw
  obtain ⟨v1, ⟨rfl, h1⟩ | ⟨rfl, h1⟩⟩ := bel_four hbel
  · exact value_left hx h1 h4 hne hp hv hw
  · exact value_right hy h1 h4 hne hp hv hw
set_option maxHeartbeats 4000000 in
theorem value_eps {R : Nat} {st : BitVec 256} {n : Int} : CapOk R (.mk 1 st n []) := by
  intro v pb po cs ds p w hbel h4 hne hp hv hw
  obtain ⟨k1, z1, a1, len1, cap1, rfl⟩ := at_lit hv.at
  obtain ⟨a2, cap2, rfl, _⟩ := part_kids hp
  obtain ⟨W, hW⟩ : ∃ W, W = (w.alloc (.cells #[.int .i64 k1, .int .u8 z1, .slice a1 len1 cap1] 39)) := ⟨_, rfl⟩
  have hal : Below w.heap.size w W := by rw [hW]; exact ((Below.refl _ _).alloc (Nat.le_refl _) _)
  obtain ⟨p0, _, _, _⟩ := part4_cells (part4_kept h4 (Kept.of_below hal) hne)
  have e : cap (.mk 1 st n []) v p = p := by
    cases v; rw [cap_mk]; rfl
  rw [e]
  have Hend := Lib.hid (And.intro (hw.later hal) (Kept.of_below (R := R) (g := R) hal))
  clear hal hw hv hp h4 hne hbel e
  go_enter Tryd.func38, Tryd.ntmps38
  go_upto_region 1 with fail
  rw [← hW]
  clear hW
  go_wp2_with fail
  refine bodyPost_ret (v := .tuple #[]) (by simp [results, Tryd.results38, go_sem]) rfl ⟨rfl, Hend.out.1, Hend.out.2⟩
theorem CapOk.renew {R : Nat} {c : K.Cr} (hf : c.form = true) (h : CapOk R c) {v : Vl} {pb po : Nat} {cs ds : List Value} {W : World} (hbel : bel c v = true) (h4 : Part4 W pb po cs) (hne : pb ≠ R) (hp : PartOn (neB R) W c cs) (hv : ValOn (neB R) W v ds) : ∀ (w : World), Kept R R W w → ∀ p : Wk, WkAt w R p →
    Calls Tryd.prog 56 #[.pointer (some ⟨R, 0, none⟩), .pointer (some ⟨pb, po, none⟩), .agg ds.toArray] w (CapPost w R (cap c v (p.1, unsetG (fun t => hasG t c) p.2))) := fun w hk p hw =>
  renew_ok hf h v pb po cs ds p w hbel (part4_kept h4 hk hne) hne (hp.kept hk) (hv.kept hk) hw
theorem one_group {x : K.Cr} : (fun t => hasGs t [x]) = fun t => hasG t x := by
  funext t
  rw [hasGs_cons, hasGs_nil, Bool.or_false]
set_option maxHeartbeats 4000000 in
theorem value_anew {R : Nat} {st : BitVec 256} {n : Int} {x : K.Cr} (hfx : x.form = true) (hx : CapOk R x) : CapOk R (.mk 7 st n [x]) := by
  intro v pb po cs ds p w hbel h4 hne hp hv hw
  have hb1 := bel_seven hbel
  obtain ⟨W, hW⟩ : ∃ W, W = (w.alloc (.cells ds.toArray 39)) := ⟨_, rfl⟩
  have hal : Below w.heap.size w W := by rw [hW]; exact ((Below.refl _ _).alloc (Nat.le_refl _) _)
  have hk : Kept R R w W := Kept.of_below hal
  have hlt := hw.lt
  have hbx : ValIn W w.heap.size ds.toArray := by rw [hW]; exact World.alloc_heap_new w _
  have hbR : w.heap.size ≠ R := by omega
  have hp4 := part4_kept h4 hk hne
  obtain ⟨a2, cap2, rfl, hkp⟩ := part_kids (hp.kept hk)
  obtain ⟨qb, qo, cs1, rfl, hcp, hqb, hc1, hp1⟩ := hkp 0 (by simp)
  simp only [Nat.zero_mul, Nat.add_zero, List.getElem_cons_zero] at hc1 hp1
  have hcp1 : (1 : Int) ≤ cap2 := by simp at hcp; omega
  have e : cap (.mk 7 st n [x]) v p = cap x v (p.1, unsetG (fun t => hasG t x) p.2) := by
    cases v; rw [cap_mk]; unfold capT; rw [one_group]; rfl
  rw [e]
  have hov := hv.kept hk
  have hq1 := hx.renew hfx hb1 hc1 hqb hp1 hov
  obtain ⟨k1, z1, a1, len1, cap1, rfl⟩ := at_lit hv.at
  have hbx3 : Val3 W w.heap.size 0 [.int .i64 k1, .int .u8 z1, .slice a1 len1 cap1] := val3_in hbx rfl
  have fp : ∀ w', Kept R R W w' → w'.cell? ⟨pb, po, none⟩ = some (.int .i64 7) ∧ w'.cell? ⟨pb, po + 1, none⟩ = some (.int .i64 n) ∧ w'.cell? ⟨pb, po + 3, none⟩ = some (.slice (some ⟨qb, qo, none⟩) 1 cap2) := fun w' h => by
    have h := part4_cells (part4_kept hp4 h hne)
    exact ⟨h.1, h.2.1, h.2.2.2⟩
  have FP := Lib.hid fp
  have Hq := Lib.hid hq1
  have Hw := Lib.hid (And.intro (hw.later hal) (And.intro hk hal))
  obtain ⟨g0, _, _⟩ := fp W (Kept.refl _ _ _)
  have u0W : W.cell? ⟨w.heap.size, 0, none⟩ = some (.int .i64 k1) := hbx3.2 0 (by decide)
  have u1W : W.cell? ⟨w.heap.size, 1, none⟩ = some (.int .u8 z1) := hbx3.2 1 (by decide)
  have u2W : W.cell? ⟨w.heap.size, 2, none⟩ = some (.slice a1 len1 cap1) := hbx3.2 2 (by decide)
  clear hq1 fp hbx3 hbx hal hk hkp hc1 hp1 hp4 e hw hv hp h4 hbel hb1 hx hov hfx
  go_enter Tryd.func38, Tryd.ntmps38
  go_upto_region 1 with fail
  rw [← hW]
  clear hW
  obtain ⟨_, _, g3W⟩ := FP.out _ (Kept.refl _ _ W)
  go_upto_region 23 with fail
  go_region_with (first
    | (go_at_call 56; refine (Hq.out _ (((Kept.refl R R W)).trans (Kept.of_below ((Below.refl _ _).drew))) _ ((Hw.out.1).later ((Below.refl _ _).drew))).mono ?_; rintro e w1 ⟨rfl, h1, h2⟩; have H1 := Lib.hid (And.intro h1 ((((Kept.refl R R W)).trans (Kept.of_below (R := R) (g := R) ((Below.refl W.heap.size W).drew))).trans h2)); clear h1 h2)
    | fail)
  all_goals
    go_wp2_with fail
  all_goals
    refine bodyPost_ret (v := .tuple #[]) (by simp [results, Tryd.results38, go_sem]) rfl ⟨rfl, H1.out.1, Hw.out.2.1.trans H1.out.2⟩
end V
end Go.Proofs.YtonhmjfopidacaaDoor
namespace Go.Proofs.YtonhmjfopidacaaDoor
namespace V
set_option maxRecDepth 100000
open Go.RowKit
theorem two_set {w : World} {R : Nat} {T : TypeId} {cs : List Value} (h : w.heap[R]? = some (.cells cs.toArray T)) (o : Nat) (a b : Value) :
    ((w.setCell ⟨R, o, none⟩ a).setCell ⟨R, o + 1, none⟩ b).drew.heap[R]? = some (.cells ((cs.set o a).set (o + 1) b).toArray T) ∧ Kept R R w ((w.setCell ⟨R, o, none⟩ a).setCell ⟨R, o + 1, none⟩ b).drew := by
  have h1 : (w.setCell ⟨R, o, none⟩ a).heap[R]? = some (.cells (cs.set o a).toArray T) := by
    rw [heap_setCell_same w R o _ _ _ h]; simp
  refine ⟨?_, (Kept.of_only (only_set w R o a)).trans ((Kept.of_only (only_set _ R (o + 1) b)).trans (Kept.of_below ((Below.refl _ _).drew)))⟩
  show ((w.setCell ⟨R, o, none⟩ a).setCell ⟨R, o + 1, none⟩ b).heap[R]? = _
  rw [heap_setCell_same _ R (o + 1) _ _ _ h1]; simp
theorem only_nat (m : Nat) (h : m ≤ 32) (w : World) : Calls Tryd.prog 55 #[.int .i64 (m : Int)] w fun e w' => e = .returned (.int .u64 ((2 ^ m : Nat) : Int)) ∧ w' = w := by
  have := only_any (m : Int) (by omega) (by omega) w
  rw [Int.toNat_natCast] at this
  exact this
set_option maxHeartbeats 4000000 in
theorem value_group {R : Nat} {st : BitVec 256} {m : Nat} (hm : m ≤ 32) {x : K.Cr} (hx : CapOk R x) : CapOk R (.mk 6 st (m : Int) [x]) := by
  intro v pb po cs ds p w hbel h4 hne hp hv hw
  obtain ⟨v1, rfl, hb1⟩ := bel_six hbel
  obtain ⟨W, hW⟩ : ∃ W, W = (w.alloc (.cells ds.toArray 39)) := ⟨_, rfl⟩
  have hal : Below w.heap.size w W := by rw [hW]; exact ((Below.refl _ _).alloc (Nat.le_refl _) _)
  have hk : Kept R R w W := Kept.of_below hal
  have hlt := hw.lt
  have hbx : ValIn W w.heap.size ds.toArray := by rw [hW]; exact World.alloc_heap_new w _
  have hbR : w.heap.size ≠ R := by omega
  have hp4 := part4_kept h4 hk hne
  obtain ⟨a1, cap1, rfl, hml, hkv⟩ := val_kids0 (hv.kept hk)
  obtain ⟨a2, cap2, rfl, hkp⟩ := part_kids (hp.kept hk)
  obtain ⟨vb, vo, ds1, rfl, hcv, hvb, hd1, ho1⟩ := hkv 0 (by simp)
  obtain ⟨qb, qo, cs1, rfl, hcp, hqb, hc1, hp1⟩ := hkp 0 (by simp)
  simp only [Nat.zero_mul, Nat.add_zero, List.getElem_cons_zero] at hc1 hp1 hd1 ho1
  have hbx3 : Val3 W w.heap.size 0 [.int .i64 7, .int .u8 0, .slice (some ⟨vb, vo, none⟩) 1 cap1] := val3_in hbx rfl
  have hcv1 : (1 : Int) ≤ cap1 := by simp at hcv; omega
  have hcp1 : (1 : Int) ≤ cap2 := by simp at hcp; omega
  have e : cap (.mk 6 st (m : Int) [x]) (.mk 7 0 [v1]) p = ((cap x v1 p).1, setG m (p.1, (cap x v1 p).1) (cap x v1 p).2) := by rw [cap_mk]; rfl
  rw [e]
  have hq1 := hx.call hb1 hc1 hqb hp1 ho1
  obtain ⟨k1, z1, b1, len1, c1, rfl⟩ := at_lit ho1.at
  have f0 : ∀ w', Kept R R W w' → w'.cell? ⟨w.heap.size, 0, none⟩ = some (.int .i64 7) ∧ w'.cell? ⟨w.heap.size, 2, none⟩ = some (.slice (some ⟨vb, vo, none⟩) 1 cap1) := fun w' h => ⟨(val3_kept hbx3 h hbR).2 0 (by decide), (val3_kept hbx3 h hbR).2 2 (by decide)⟩
  have f1 : ∀ w', Kept R R W w' → w'.cell? ⟨vb, vo, none⟩ = some (.int .i64 k1) ∧ w'.cell? ⟨vb, vo + 1, none⟩ = some (.int .u8 z1) ∧ w'.cell? ⟨vb, vo + 2, none⟩ = some (.slice b1 len1 c1) := fun w' h => by
    have h := val3_kept hd1 h hvb
    exact ⟨h.2 0 (by decide), h.2 1 (by decide), h.2 2 (by decide)⟩
  have fp : ∀ w', Kept R R W w' → w'.cell? ⟨pb, po, none⟩ = some (.int .i64 6) ∧ w'.cell? ⟨pb, po + 1, none⟩ = some (.int .i64 (m : Int)) ∧ w'.cell? ⟨pb, po + 3, none⟩ = some (.slice (some ⟨qb, qo, none⟩) 1 cap2) := fun w' h => by
    have h := part4_cells (part4_kept hp4 h hne)
    exact ⟨h.1, h.2.1, h.2.2.2⟩
  have F0 := Lib.hid f0
  have F1 := Lib.hid f1
  have FP := Lib.hid fp
  have Hq := Lib.hid hq1
  have Hw := Lib.hid (And.intro (hw.later hal) (And.intro hk hal))
  obtain ⟨rs0, z0, hraw0⟩ := (hw.later hal).open
  obtain ⟨a0, _, _⟩ := hraw0.cells
  have Hfrom := Lib.hid (Eq.refl (wrap64 p.1))
  obtain ⟨g0, _, _⟩ := fp W (Kept.refl _ _ _)
  clear hq1 f0 f1 fp hbx3 hbx hal hk hkv hkp hd1 ho1 hc1 hp1 hp4 e hw hv hp h4 hbel hb1 hx hml hraw0
  go_enter Tryd.func38, Tryd.ntmps38
  go_upto_region 1 with fail
  simp only [List.length_cons, List.length_nil, Nat.zero_add] at hW ⊢
  rw [← hW]
  clear hW
  go_upto_region 19 with fail
  obtain ⟨_, b2W⟩ := F0.out _ (Kept.refl _ _ _)
  obtain ⟨u0W, u1W, u2W⟩ := F1.out _ (Kept.refl _ _ _)
  obtain ⟨_, _, g3W⟩ := FP.out _ (Kept.refl _ _ _)
  go_cut [] from 97 to 107 (fun wx => WkAt wx R (cap x v1 p) ∧ Kept R R W wx)
  case first =>
    go_region_with (first
      | (go_at_call 38; refine (Hq.out _ (((Kept.refl R R W)).trans (Kept.of_below ((Below.refl _ _).drew))) _ ((Hw.out.1).later ((Below.refl _ _).drew))).mono ?_; rintro e w1 ⟨rfl, h1, h2⟩; have H1 := Lib.hid (And.intro h1 ((((Kept.refl R R W)).trans (Kept.of_below (R := R) (g := R) ((Below.refl W.heap.size W).drew))).trans h2)); clear h1 h2)
      | fail)
    all_goals
      go_wp2_with fail
      go_meet
      exact H1.out
  case rest =>
  obtain ⟨wa, rfl⟩ : ∃ wa, wa = wc := ⟨_, rfl⟩
  have Hwa := Lib.hid hcut
  clear hcut
  obtain ⟨h1a, hka⟩ := Hwa.out
  obtain ⟨q, hq⟩ : ∃ q, q = cap x v1 p := ⟨_, rfl⟩
  rw [← hq] at h1a
  obtain ⟨rs, z, hraw⟩ := h1a.open
  obtain ⟨a0, a1, af⟩ := hraw.cells
  obtain ⟨_, n1a, _⟩ := FP.out _ hka
  obtain ⟨f, t, s0, s1, _⟩ := hraw.2.2.2.2.2 m (by omega)
  have s0 : wa.cell? ⟨R, 2 + m * 2, none⟩ = some (.int .i64 f) := by rw [cells_at hraw.1, List.getElem?_toArray]; exact s0
  have s1 : wa.cell? ⟨R, 2 + m * 2 + 1, none⟩ = some (.int .i64 t) := by rw [cells_at hraw.1, List.getElem?_toArray]; exact s1
  have dm : decide ((m : Int) < 33) = true := by simp; omega
  have Hraw := Lib.hid hraw
  have Hka := Lib.hid hka
  clear hraw hka h1a
  go_upto_region 20 with fail
  have Hqq := Lib.hid hq
  clear hq Hwa
  go_cut [] from 108 to 121 (fun wx => wx.heap[R]? = some (.cells ((rs.set (2 + m * 2) (.int .i64 (wrap64 p.1))).set (2 + m * 2 + 1) (.int .i64 (wrap64 q.1))).toArray 80) ∧ Kept R R W wx)
  case first =>
    go_region
    all_goals
      go_wp2_with fail
      go_meet
      exact ⟨(two_set Hraw.out.1 _ _ _).1, Hka.out.trans (two_set Hraw.out.1 _ _ _).2⟩
  case rest =>
  obtain ⟨wb, rfl⟩ : ∃ wb, wb = wc := ⟨_, rfl⟩
  obtain ⟨hb1, hkb⟩ := hcut
  have c1 : wb.cell? ⟨R, 1, none⟩ = some (.int .u64 z) := by
    rw [cells_at hb1, List.getElem?_toArray, List.getElem?_set_ne (by omega), List.getElem?_set_ne (by omega)]
    exact Hraw.out.2.2.2.2.1
  have cf : ∀ o, wb.frozen? ⟨R, o, none⟩ = false := fun o => by simp [World.frozen?, hb1]
  obtain ⟨_, n1b, _⟩ := FP.out _ hkb
  have hset := WkAt.set Hraw.out m (p.1, q.1) (by omega) hb1
  have hon := only_nat m (by omega)
  have hor : bits .or .u64 (z : Int) ((2 ^ m : Nat) : Int) = ((z ||| 2 ^ m : Nat) : Int) := by
    have h1 := Hraw.out.2.2.1
    have h2 : 2 ^ m < 2 ^ 33 := Nat.pow_lt_pow_right (by decide) (by omega)
    exact bits_or_nat _ _ (by omega) (by omega)
  have Hend := Lib.hid (And.intro (hset.later ((Below.refl _ _).drew)) ((hkb.trans (Kept.of_only (R := R) (g := R) (only_set wb R 1 (.int .u64 ((z ||| 2 ^ m : Nat) : Int))))).trans (Kept.of_below ((Below.refl _ _).drew))))
  clear hset hb1 hkb
  generalize z ||| 2 ^ m = zz at *
  generalize 2 ^ m = zb at *
  go_upto_region 21 with fail
  go_region_with (first
    | (go_at_call 55; refine (hon _).mono ?_; rintro e w1 ⟨rfl, rfl⟩)
    | fail)
  all_goals
    go_wp2_with fail
  all_goals
    rw [← Hqq.out]
    refine bodyPost_ret (v := .tuple #[]) (by simp [results, Tryd.results38, go_sem]) rfl ⟨rfl, Hend.out.1, Hw.out.2.1.trans Hend.out.2⟩
end V
end Go.Proofs.YtonhmjfopidacaaDoor
namespace Go.Proofs.YtonhmjfopidacaaDoor
namespace V
set_option maxRecDepth 100000
open Go.RowKit
set_option maxHeartbeats 4000000 in
theorem value_star {R : Nat} {st : BitVec 256} {n : Int} {x : K.Cr} (hfx : x.form = true) (hx : CapOk R x) : CapOk R (.mk 5 st n [x]) := by
  intro v pb po cs ds p w hbel h4 hne hp hv hw
  obtain ⟨vl, rfl, hbs⟩ := bel_five hbel
  obtain ⟨W, hW⟩ : ∃ W, W = (w.alloc (.cells ds.toArray 39)) := ⟨_, rfl⟩
  have hal : Below w.heap.size w W := by rw [hW]; exact ((Below.refl _ _).alloc (Nat.le_refl _) _)
  have hk : Kept R R w W := Kept.of_below hal
  have hlt := hw.lt
  have hbx : ValIn W w.heap.size ds.toArray := by rw [hW]; exact World.alloc_heap_new w _
  have hbR : w.heap.size ≠ R := by omega
  have hp4 := part4_kept h4 hk hne
  obtain ⟨a2, cap2, rfl, hkp⟩ := part_kids (hp.kept hk)
  obtain ⟨qb, qo, cs1, rfl, hcp, hqb, hc1, hp1⟩ := hkp 0 (by simp)
  simp only [Nat.zero_mul, Nat.add_zero, List.getElem_cons_zero] at hc1 hp1
  have hcp1 : (1 : Int) ≤ cap2 := by simp at hcp; omega
  obtain ⟨a1, cap1, rfl, hml, hkv⟩ := val_kids0 (hv.kept hk)
  have e : cap (.mk 5 st n [x]) (.mk 6 0 vl) p = vl.foldl (fun q u => cap x u (q.1, unsetG (fun t => hasG t x) q.2)) p := by
    rw [cap_mk]; unfold capT; rw [one_group]; rfl
  rw [e]
  have hq1 : ∀ u ∈ vl, ∀ ds, ValOn (neB R) W u ds → ∀ (w : World), Kept R R W w → ∀ p : Wk, WkAt w R p →
    Calls Tryd.prog 56 #[.pointer (some ⟨R, 0, none⟩), .pointer (some ⟨qb, qo, none⟩), .agg ds.toArray] w (CapPost w R (cap x u (p.1, unsetG (fun t => hasG t x) p.2))) :=
    fun u hu ds hd => hx.renew hfx (hbs u hu) hc1 hqb hp1 hd
  obtain ⟨L, hL⟩ : ∃ L, L = vl.length := ⟨_, rfl⟩
  rw [← hL] at hbx hml hW
  have hbx3 : Val3 W w.heap.size 0 [.int .i64 6, .int .u8 0, .slice a1 L cap1] := val3_in hbx rfl
  have fp : ∀ w', Kept R R W w' → w'.cell? ⟨pb, po, none⟩ = some (.int .i64 5) ∧ w'.cell? ⟨pb, po + 1, none⟩ = some (.int .i64 n) ∧ w'.cell? ⟨pb, po + 3, none⟩ = some (.slice (some ⟨qb, qo, none⟩) 1 cap2) := fun w' h => by
    have h := part4_cells (part4_kept hp4 h hne)
    exact ⟨h.1, h.2.1, h.2.2.2⟩
  have FP := Lib.hid fp
  have Hq := Lib.hid hq1
  have Hw := Lib.hid (And.intro (hw.later hal) (And.intro hk hal))
  have Hkv := Lib.hid hkv
  have HL := Lib.hid hL
  obtain ⟨g0, _, _⟩ := fp W (Kept.refl _ _ _)
  have b2W : W.cell? ⟨w.heap.size, 2, none⟩ = some (.slice a1 L cap1) := hbx3.2 2 (by decide)
  obtain ⟨F, hF⟩ : ∃ F : Wk → Vl → Wk, F = fun q u => cap x u (q.1, unsetG (fun t => hasG t x) q.2) := ⟨_, rfl⟩
  have HF := Lib.hid hF
  have hLI : (L : Int) ≤ 9223372036854775807 := by unfold maxLen at hml; omega
  rw [← hF]
  rw [← hL]
  clear hq1 fp hbx3 hbx hal hk hkp hkv hc1 hp1 hp4 e hw hv hp h4 hbel hbs hx hfx hml hL hF
  go_enter Tryd.func38, Tryd.ntmps38
  go_upto_region 1 with fail
  rw [← hW]
  clear hW
  go_wp2_with fail
  go_loopw [78] (fun i wr => ∃ j : Nat, i = .int .i64 j ∧ j ≤ L ∧ Hid (WkAt wr R ((vl.take j).foldl F p)) ∧ Hid (Kept R R W wr)) (fun i _ => L - (intOf i).toNat)
  case atStart => exact ⟨0, rfl, Nat.zero_le _, Lib.hid (by rw [List.take_zero]; exact Hw.out.1), Lib.hid (Kept.refl _ _ _)⟩
  case round =>
    obtain ⟨j, rfl, hj, hwk, hkr⟩ := hrel
    by_cases hjn : j < L
    · have hd : decide ((j : Int) < L) = true := by simp; omega
      have hjL : j < vl.length := by have := HL.out; omega
      obtain ⟨vb, vo, ds, rfl, hcv, hvb, hd3, ho3⟩ := Hkv.out j hjL
      have hcall := Hq.out _ (List.getElem_mem hjL) ds ho3
      have htk : (vl.take (j + 1)).foldl F p = F ((vl.take j).foldl F p) vl[j] := by rw [List.take_succ_eq_append_getElem hjL, List.foldl_append]; rfl
      obtain ⟨k1, z1, b1, len1, c1, rfl⟩ := at_lit ho3.at
      have hd3r := val3_kept hd3 hkr.out hvb
      have hcvI : (L : Int) ≤ cap1 := by have := HL.out; omega
      generalize vl[j] = u at hcall htk
      obtain ⟨w1, hw1⟩ : ∃ w1, w1 = wr.alloc (.cells #[.int .i64 k1, .int .u8 z1, .slice b1 len1 c1] 39) := ⟨_, rfl⟩
      have hal1 : Below wr.heap.size wr w1 := by rw [hw1]; exact K.alloc_below _ _
      have hbx1 : Val3 w1 wr.heap.size 0 [.int .i64 k1, .int .u8 z1, .slice b1 len1 c1] := by rw [hw1]; exact val3_in (World.alloc_heap_new wr _) rfl
      have hk1 := hkr.out.trans (Kept.of_below (R := R) (g := R) hal1)
      have hwk1 := hwk.out.later hal1
      obtain ⟨_, _, g3⟩ := FP.out _ hk1
      have u0 : w1.cell? ⟨wr.heap.size, 0, none⟩ = some (.int .i64 k1) := hbx1.2 0 (by decide)
      have u1 : w1.cell? ⟨wr.heap.size, 1, none⟩ = some (.int .u8 z1) := hbx1.2 1 (by decide)
      have u2 : w1.cell? ⟨wr.heap.size, 2, none⟩ = some (.slice b1 len1 c1) := hbx1.2 2 (by decide)
      have Hd3 := Lib.hid hd3r
      have H1w := Lib.hid (And.intro hk1 hwk1)
      have Hcall := Lib.hid (hcall _ (hk1.trans (Kept.of_below ((Below.refl w1.heap.size w1).drew))) _ (hwk1.later ((Below.refl _ _).drew)))
      have Hfu := Lib.hid (show cap x u (((vl.take j).foldl F p).1, unsetG (fun t => hasG t x) ((vl.take j).foldl F p).2) = (vl.take (j + 1)).foldl F p by rw [htk, HF.out])
      have HjL := Lib.hid hjL
      clear hcall htk hd3 ho3 hd3r hal1 hbx1 hk1 hwk1 hkr hwk hcv hvb hjL
      go_upto_region 15 with (first | (refine wpList_load_val rfl _ rfl vb (vo + j * 3) _ rfl Hd3.out ?_))
      rw [← hw1]
      clear hw1
      go_region_with (first
        | (go_at_call 56; refine (Hcall.out).mono ?_; rintro e w2 ⟨rfl, h1, h2⟩; rw [Hfu.out] at h1; have H2 := Lib.hid (And.intro h1 ((H1w.out.1.trans (Kept.of_below (R := R) (g := R) ((Below.refl w1.heap.size w1).drew))).trans h2)); clear h1 h2)
        | fail)
      all_goals
        go_wp2_with fail
        go_roundw
        case rel => exact ⟨j + 1, by go_num, by omega, Lib.hid H2.out.1, Lib.hid H2.out.2⟩
        case measure => simp [intOf]; omega
    · have hd : decide ((j : Int) < L) = false := by simp; omega
      obtain rfl : j = L := by omega
      have hlj : vl.take j = vl := List.take_of_length_le (by have := HL.out; omega)
      rw [hlj] at hwk
      go_wp2_with fail
      refine bodyPost_ret (v := .tuple #[]) (by simp [results, Tryd.results38, go_sem]) rfl ⟨rfl, hwk.out, Hw.out.2.1.trans hkr.out⟩
theorem cap_ok {R : Nat} : ∀ (m : Nat) (c : K.Cr), c.count ≤ m → c.form = true → CapOk R c
  | 0, c, h, _ => absurd (K.Cr.count_pos c) (by omega)
  | m + 1, .mk k st n l, hm, hf => by
    rw [K.count_mk] at hm
    obtain ⟨hfl, hn0, hn32, hk⟩ := form_kinds hf
    have ih : ∀ y ∈ l, CapOk R y := fun y hy => cap_ok m y (by have := K.counts_mem hy; omega) (hfl y hy)
    rcases hk with ⟨hk, rfl⟩ | ⟨rfl, rfl⟩ | ⟨hk, x, y, rfl⟩ | ⟨hk, x, rfl⟩
    · rcases hk with rfl | rfl
      · intro v pb po cs ds p w hbel
        rw [bel_zero] at hbel
        cases hbel
      · exact value_eps
    · exact value_set
    · rcases hk with rfl | rfl
      · exact value_cat (ih x (by simp)) (ih y (by simp))
      · exact value_alt (ih x (by simp)) (ih y (by simp))
    · rcases hk with rfl | rfl | rfl
      · exact value_star (hfl x (by simp)) (ih x (by simp))
      · obtain ⟨t, rfl⟩ : ∃ t : Nat, n = (t : Int) := ⟨n.toNat, by omega⟩
        exact value_group (by omega) (ih x (by simp))
      · exact value_anew (hfl x (by simp)) (ih x (by simp))
end V
end Go.Proofs.YtonhmjfopidacaaDoor
namespace Go.Proofs.YtonhmjfopidacaaDoor
namespace V
set_option maxRecDepth 100000
open Go.RowKit
/-- a group's span, as it is told -/
def spW : Sp → Int × Int
  | none => (-1, -1)
  | some q => spOf q
theorem results_span {fn : Func} {q : Tmp} (h : fn.results = #[.cell q 47]) (tmps : Array Value) (w : World) (b : Nat) (cs : Array Value) (hp : tmps.getD q undef = .pointer (some ⟨b, 0, none⟩)) (hs : w.heap[b]? = some (.cells cs 47)) (hc : cs.size = 2) :
    (results fn tmps).run Tryd.prog w = .ok (.agg cs) w := results_cell_row h tmps w b _ _ _ _ hp hs Tryd.underlying47 rfl (show _ = some cs.size from by rw [hc]; exact infoSpan)
theorem bit_and (z m : Nat) : ((z &&& 2 ^ m : Nat) : Int) = 0 ↔ z.testBit m = false := by
  constructor
  · intro h
    have h : z &&& 2 ^ m = 0 := by omega
    have h2 := congrArg (fun n => n.testBit m) h
    simp only [Nat.testBit_and, Nat.testBit_two_pow, Nat.zero_testBit, decide_true, Bool.and_true] at h2
    exact h2
  · intro h
    have : z &&& 2 ^ m = 0 := by
      apply Nat.eq_of_testBit_eq
      intro i
      rw [Nat.testBit_and, Nat.testBit_two_pow, Nat.zero_testBit]
      by_cases hi : m = i
      · rw [← hi, h]; rfl
      · rw [decide_eq_false hi, Bool.and_false]
    omega
set_option maxHeartbeats 4000000 in
theorem span_any {R : Nat} {p : Wk} {w : World} (h : WkAt w R p) (m : Nat) (hm : m ≤ 32) :
    Calls Tryd.prog 39 #[.pointer (some ⟨R, 0, none⟩), .int .i64 (m : Int)] w fun e w' => e = .returned (.agg #[.int .i64 (spW (p.2 m)).1, .int .i64 (spW (p.2 m)).2]) ∧ Below w.heap.size w w' := by
  obtain ⟨W, hW⟩ : ∃ W, W = w.alloc (.cells #[.int .i64 0, .int .i64 0] 47) := ⟨_, rfl⟩
  have hal : Below w.heap.size w W := by rw [hW]; exact K.alloc_below _ _
  have hlt := h.lt
  obtain ⟨rs, z, hraw⟩ := (h.later hal).open
  obtain ⟨_, q1, _⟩ := hraw.cells
  have hbx : W.heap[w.heap.size]? = some (.cells #[.int .i64 0, .int .i64 0] 47) := by rw [hW]; exact World.alloc_heap_new w _
  obtain ⟨f, t, s0, s1, hst⟩ := hraw.2.2.2.2.2 m (by omega)
  have s0 : W.cell? ⟨R, 2 + m * 2, none⟩ = some (.int .i64 f) := by rw [cells_at hraw.1, List.getElem?_toArray]; exact s0
  have s1 : W.cell? ⟨R, 2 + m * 2 + 1, none⟩ = some (.int .i64 t) := by rw [cells_at hraw.1, List.getElem?_toArray]; exact s1
  have dm : decide ((m : Int) < 33) = true := by simp; omega
  have hon := only_nat m hm
  have hand : bits .and .u64 (z : Int) ((2 ^ m : Nat) : Int) = ((z &&& 2 ^ m : Nat) : Int) := by
    have h1 := hraw.2.2.1
    have h2 : 2 ^ m < 2 ^ 33 := Nat.pow_lt_pow_right (by decide) (by omega)
    exact bits_and_nat _ _ (by omega) (by omega)
  have htest : (((z &&& 2 ^ m : Nat) : Int) == 0) = !z.testBit m := by
    have := bit_and z m
    cases hb : z.testBit m with
    | false => rw [hb] at this; have := this.2 rfl; rw [this]; rfl
    | true =>
      rw [hb] at this
      have : ((z &&& 2 ^ m : Nat) : Int) ≠ 0 := fun h => by have := this.1 h; cases this
      simpa using this
  have f0 : ∀ o, W.frozen? ⟨w.heap.size, o, none⟩ = false := fun o => by simp [World.frozen?, hbx]
  have c0 : W.cell? ⟨w.heap.size, 0, none⟩ = some (.int .i64 0) := by rw [cells_at hbx]; rfl
  have c1 : W.cell? ⟨w.heap.size, 1, none⟩ = some (.int .i64 0) := by rw [cells_at hbx]; rfl
  have Hbx := Lib.hid (And.intro hbx hal)
  have hsp : z.testBit m = false → spW (p.2 m) = (-1, -1) := fun hb => by
    rw [hb] at hst
    cases hp : p.2 m with
    | none => rfl
    | some q => rw [hp] at hst; simp at hst
  have hsp' : z.testBit m = true → spW (p.2 m) = (f, t) := fun hb => by
    rw [hb] at hst
    cases hp : p.2 m with
    | none => rw [hp] at hst; simp at hst
    | some q => rw [hp] at hst; simp at hst; exact hst
  clear hraw hbx hal hst h
  generalize spW (p.2 m) = sp at *
  generalize z &&& 2 ^ m = za at *
  generalize 2 ^ m = zb at *
  cases hb : z.testBit m with
  | false =>
    rw [hb] at htest
    have hsp := hsp hb
    subst hsp
    simp only [Bool.not_false] at htest
    clear hsp' hb
    go_enter Tryd.func39, Tryd.ntmps39
    go_upto_region 1 with fail
    rw [← hW]
    clear hW
    go_region_with (first
      | (go_at_call 55; refine (hon _).mono ?_; rintro e w1 ⟨rfl, rfl⟩)
      | fail)
    all_goals
      go_wp2_with fail
    all_goals
      refine bodyPost_ret (results_span rfl _ _ w.heap.size _ rfl (two_set Hbx.out.1 0 _ _).1 rfl) rfl ⟨rfl, Hbx.out.2.trans ?_⟩
      refine Below.drew ?_
      exact ((Below.refl w.heap.size W).setCell (Nat.le_refl _) _).setCell (Nat.le_refl _) _
  | true =>
    rw [hb] at htest
    have hsp := hsp' hb
    subst hsp
    simp only [Bool.not_true] at htest
    clear hsp' hb
    go_enter Tryd.func39, Tryd.ntmps39
    go_upto_region 1 with fail
    rw [← hW]
    clear hW
    go_region_with (first
      | (go_at_call 55; refine (hon _).mono ?_; rintro e w1 ⟨rfl, rfl⟩)
      | fail)
    all_goals
      go_wp2_with fail
    all_goals
      refine bodyPost_ret (results_span rfl _ _ w.heap.size _ rfl (two_set Hbx.out.1 0 _ _).1 rfl) rfl ⟨rfl, Hbx.out.2.trans ?_⟩
      refine Below.drew ?_
      exact ((Below.refl w.heap.size W).setCell (Nat.le_refl _) _).setCell (Nat.le_refl _) _
end V
end Go.Proofs.YtonhmjfopidacaaDoor
namespace Go.Proofs.YtonhmjfopidacaaDoor
namespace V
set_option maxRecDepth 100000
open Go.RowKit
abbrev Sl := List (Int × Int)
def spCells (l : Sl) : List Value := l.flatMap fun q => [.int .i64 q.1, .int .i64 q.2]
theorem spCells_snoc (l : Sl) (q : Int × Int) : spCells (l ++ [q]) = spCells l ++ [.int .i64 q.1, .int .i64 q.2] := by
  unfold spCells
  rw [List.flatMap_append]; rfl
/-- a list of spans, in memory -/
def SpAt (w : World) (a : Option Addr) (cap : Nat) (l : Sl) : Prop := l.length ≤ maxLen ∧ (l.length = 0 ∨ ∃ b off, a = some ⟨b, off, none⟩ ∧ l.length ≤ cap ∧ b < w.heap.size ∧
  ∀ j (hj : j < l.length), w.cell? ⟨b, off + j * 2, none⟩ = some (.int .i64 l[j].1) ∧ w.cell? ⟨b, off + j * 2 + 1, none⟩ = some (.int .i64 l[j].2))
theorem SpAt.below {w w' : World} {a : Option Addr} {cap : Nat} {l : Sl} (h : SpAt w a cap l) (hb : Below w.heap.size w w') : SpAt w' a cap l := by
  obtain ⟨h1, h2⟩ := h
  refine ⟨h1, ?_⟩
  rcases h2 with h2 | ⟨b, off, e, hc, hlt, hcell⟩
  · exact .inl h2
  · refine .inr ⟨b, off, e, hc, Nat.lt_of_lt_of_le hlt hb.size, fun j hj => ?_⟩
    rw [hb.cell (p := ⟨b, off + j * 2, none⟩) hlt, hb.cell (p := ⟨b, off + j * 2 + 1, none⟩) hlt]
    exact hcell j hj
theorem spCells_get (l : Sl) (j : Nat) (hj : j < l.length) : (spCells l)[j * 2]? = some (.int .i64 l[j].1) ∧ (spCells l)[j * 2 + 1]? = some (.int .i64 l[j].2) := by
  induction l generalizing j with
  | nil => simp at hj
  | cons q l ih =>
    cases j with
    | zero => exact ⟨rfl, rfl⟩
    | succ j =>
      have h := ih j (by simpa using hj)
      have e : spCells (q :: l) = .int .i64 q.1 :: .int .i64 q.2 :: spCells l := rfl
      rw [e, show (j + 1) * 2 = j * 2 + 1 + 1 from by omega, List.getElem?_cons_succ, List.getElem?_cons_succ, List.getElem?_cons_succ, List.getElem?_cons_succ]
      exact h
theorem sp_of_owns {w : World} {base : Nat} {v : Value} {l : Sl} (h : w.ownsRow base 47 2 v l.length (spCells l)) (h0 : 0 < l.length) : ∃ a cap, v = .slice a l.length cap ∧ SpAt w a cap l := by
  rcases h.2 with ⟨_, h1⟩ | ⟨g, cap, cur, rfl, hb, hg, hc, hm, hs, htake⟩
  · omega
  · refine ⟨some ⟨g, 0, none⟩, cap, rfl, by omega, .inr ⟨g, 0, rfl, hc, (Array.getElem?_eq_some_iff.1 hg).1, fun j hj => ?_⟩⟩
    obtain ⟨e1, e2⟩ := spCells_get l j hj
    have := h.cells (g := g) rfl (j * 2) _ e1
    have := h.cells (g := g) rfl (j * 2 + 1) _ e2
    rw [addr_at] at *
    constructor
    · assumption
    · assumption
/-- what Of answers -/
def spansL (at_ : Int) (p : Wk) (n : Nat) : Sl := (wrap64 at_, wrap64 p.1) :: (List.range n).map fun i => spW (p.2 (i + 1))
theorem spansL_len (a : Int) (p : Wk) (n : Nat) : (spansL a p n).length = n + 1 := by simp [spansL]
theorem spansL_succ (a : Int) (p : Wk) (n : Nat) : spansL a p (n + 1) = spansL a p n ++ [spW (p.2 (n + 1))] := by
  simp [spansL, List.range_succ]
def none32 : Gs := fun _ => none
def SpPost (w : World) (l : Sl) (err : Int) (e : Ending) (w' : World) : Prop := ∃ a cap, e = .returned (.tuple #[.slice a l.length cap, .int .i64 err]) ∧ SpAt w' a cap l ∧ Below w.heap.size w w'
def okOf (c : K.Cr) (v : Vl) (at_ n : Int) : Bool := decide (0 ≤ at_ ∧ at_ ≤ 1073741824 ∧ 0 ≤ n ∧ n ≤ 32) && goodV c v
def ofSp (c : K.Cr) (v : Vl) (at_ n : Int) : Sl := if okOf c v at_ n then spansL at_ (cap c v (at_, none32)) n.toNat else []
def ofErr (c : K.Cr) (v : Vl) (at_ n : Int) : Int := if okOf c v at_ n then 0 else 1
theorem infoWk : (Tryd.prog.info? 80).map (·.size) = some 68 := by kernel_rfl
theorem wpList_store_wk {ops : Array Oper} {rest : List Oper} {o : Oper} {a : Act} {w : World} {Q : Exit → Act → World → Prop} (hgd : o.guard = none) (x y : Operand) (ho : o.op = .store 80 x y)
    (b : Nat) (cs ds : Array Value) (hx : a.eval x = .pointer (some ⟨b, 0, none⟩)) (hy : a.eval y = .agg ds) (hb : w.heap[b]? = some (.cells cs 80)) (hd : ds.size = 68) (hc : cs.size = 68) (h1 : (ds.all fun x => x.oneCell') = true)
    (h : ∀ w', w'.heap[b]? = some (.cells ds 80) → Only b w w' → wpList Tryd.prog ops Q rest (a.put o.dst undef) w') : wpList Tryd.prog ops Q (o :: rest) a w :=
  wpList_store_row hgd _ _ _ ho b _ hx hy _ _ hb (by rw [hd]; exact infoWk) (by rw [hd, hc]) h1 (h _ (setRow_heap w b _ _ _ _ hb) (only_row _ _ _))
theorem wk_zero : Tryd.zeroCells80 = (.int .i64 0 :: .int .u64 0 :: List.replicate 66 (.int .i64 0)).toArray := by kernel_rfl
theorem wk_start {w : World} {R : Nat} {a : Int} (h : w.heap[R]? = some (.cells (Tryd.zeroCells80.setIfInBounds 0 (.int .i64 a)) 80)) (ha : wrap64 a = a) : WkAt w R (a, none32) := by
  rw [wk_zero] at h
  refine ⟨.int .i64 a :: .int .u64 0 :: List.replicate 66 (.int .i64 0), 0, h, by simp, by decide, by rw [ha]; rfl, rfl, fun n hn => ⟨0, 0, ?_, ?_, ?_⟩⟩
  · rw [show 2 + n * 2 = (n * 2 + 1) + 1 from by omega, List.getElem?_cons_succ, List.getElem?_cons_succ, List.getElem?_replicate, if_pos (by omega)]
  · rw [show 2 + n * 2 + 1 = (n * 2 + 1 + 1) + 1 from by omega, List.getElem?_cons_succ, List.getElem?_cons_succ, List.getElem?_replicate, if_pos (by omega)]
  · rw [Nat.zero_testBit]; rfl
set_option maxHeartbeats 4000000 in
theorem of_bad {c : K.Cr} {v : Vl} {cs ds : List Value} {w : World} (hc : K.Cr.at w c cs) (hv : Vl.at w v ds) (at_ n : Int) (h : at_ < 0 ∨ 1073741824 < at_ ∨ n < 0 ∨ 32 < n) :
    Calls Tryd.prog 13 #[.agg cs.toArray, .agg ds.toArray, .int .i64 at_, .int .i64 n] w (SpPost w [] 1) := by
  obtain ⟨W, hW⟩ : ∃ W, W = (w.alloc (.cells cs.toArray 28)).alloc (.cells ds.toArray 39) := ⟨_, rfl⟩
  have hbW : Below w.heap.size w W := by rw [hW]; exact ((Below.refl _ _).alloc (Nat.le_refl _) _).alloc (by simp) _
  have Hend := Lib.hid hbW
  obtain ⟨k1, s1, n1, a1, len1, cap1, rfl⟩ := K.at_lit hc
  obtain ⟨k2, z2, a2, len2, cap2, rfl⟩ := at_lit hv
  clear hc hv hbW
  have h1 : at_ < 0 ∨ ¬ at_ < 0 ∧ 1073741824 < at_ ∨ ¬ at_ < 0 ∧ ¬ 1073741824 < at_ ∧ n < 0 ∨ ¬ at_ < 0 ∧ ¬ 1073741824 < at_ ∧ ¬ n < 0 ∧ 32 < n := by omega
  clear h
  rcases h1 with h1 | ⟨h1, h2⟩ | ⟨h1, h2, h3⟩ | ⟨h1, h2, h3, h4⟩
  all_goals
    try have d1 : decide (at_ < 0) = true := decide_eq_true h1
    try have d1 : decide (at_ < 0) = false := decide_eq_false h1
    try have d2 : decide (1073741824 < at_) = true := decide_eq_true h2
    try have d2 : decide (1073741824 < at_) = false := decide_eq_false h2
    try have d3 : decide (n < 0) = true := decide_eq_true h3
    try have d3 : decide (n < 0) = false := decide_eq_false h3
    try have d4 : decide (32 < n) = true := decide_eq_true h4
    clear h1
    try clear h2
    try clear h3
    try clear h4
    go_enter Tryd.func13, Tryd.ntmps13
    go_upto_region 1 with fail
    rw [← hW]
    clear hW
    go_wp2_with fail
    refine bodyPost_ret (v := .tuple #[.slice none 0 0, .int .i64 1]) (by simp [results, Tryd.results13, go_sem]) rfl ⟨none, 0, rfl, ⟨by decide, .inl rfl⟩, Hend.out⟩
set_option maxHeartbeats 4000000 in
theorem of_other {c : K.Cr} {v : Vl} {cs ds : List Value} {w : World} (hc : K.Cr.at w c cs) (hv : Vl.at w v ds) (at_ n : Int) (h : 0 ≤ at_ ∧ at_ ≤ 1073741824 ∧ 0 ≤ n ∧ n ≤ 32) (hg : goodV c v = false) :
    Calls Tryd.prog 13 #[.agg cs.toArray, .agg ds.toArray, .int .i64 at_, .int .i64 n] w (SpPost w [] 1) := by
  obtain ⟨W, hW⟩ : ∃ W, W = (w.alloc (.cells cs.toArray 28)).alloc (.cells ds.toArray 39) := ⟨_, rfl⟩
  have hbW : Below w.heap.size w W := by rw [hW]; exact ((Below.refl _ _).alloc (Nat.le_refl _) _).alloc (by simp) _
  have hcb : K.Core7 W w.heap.size 0 cs := by
    rw [hW]
    exact core7_below (K.core7_in (World.alloc_heap_new w (.cells cs.toArray 28)) (K.at_len hc)) (by simp) (K.alloc_below _ _)
  have hvb : Val3 W (w.heap.size + 1) 0 ds := by
    have h := World.alloc_heap_new (w.alloc (.cells cs.toArray 28)) (.cells ds.toArray 39)
    rw [World.size_alloc] at h
    rw [hW]
    exact val3_in h (at_len hv)
  have hcall := good_any (K.Cr.at_below hbW (Nat.le_refl _) _ _ hc) (Vl.at_below hbW (Nat.le_refl _) _ _ hv)
  rw [hg] at hcall
  obtain ⟨k1, s1, n1, a1, len1, cap1, rfl⟩ := K.at_lit hc
  obtain ⟨k2, z2, a2, len2, cap2, rfl⟩ := at_lit hv
  have Hend := Lib.hid hbW
  have Hc := Lib.hid hcall
  have H7 := Lib.hid (And.intro hcb hvb)
  obtain ⟨h1, h2, h3, h4⟩ := h
  have d1 : decide (at_ < 0) = false := decide_eq_false (by omega)
  have d2 : decide (1073741824 < at_) = false := decide_eq_false (by omega)
  have d3 : decide (n < 0) = false := decide_eq_false (by omega)
  have d4 : decide (32 < n) = false := decide_eq_false (by omega)
  clear hc hv hbW hcb hvb hcall h1 h2 h3 h4 hg
  go_enter Tryd.func13, Tryd.ntmps13
  go_upto_region 1 with fail
  rw [← hW]
  clear hW
  go_wp2_with (first
    | (refine K.wpList_load_node_want rfl _ rfl w.heap.size 0 _ rfl H7.out.1 ?_)
    | (refine wpList_load_val_want rfl _ rfl (w.heap.size + 1) 0 _ rfl H7.out.2 ?_)
    | (go_at_call 32; refine (Hc.out).mono ?_; rintro e w3 ⟨rfl, hb3⟩; have Hb3 := Lib.hid hb3; clear hb3)
    | fail)
  refine bodyPost_ret (v := .tuple #[.slice none 0 0, .int .i64 1]) (by simp [results, Tryd.results13, go_sem]) rfl ⟨none, 0, rfl, ⟨by decide, .inl rfl⟩, Hend.out.trans (Hb3.out.mono Hend.out.size)⟩
theorem ValOn.of_old {R : Nat} {w w' : World} {v : Vl} {ds : List Value} (h : Vl.at w v ds) (hb : Below w.heap.size w w') (hR : w.heap.size ≤ R) : ValOn (neB R) w' v ds := by
  refine Vl.at_move (fun a u ha => ?_) (by rw [dim_size]; exact hb.size) v ds h
  have hlt := World.block_lt_of_cell? w _ ha
  rw [World.cell?_of_block (dim_block (decide_eq_true (by omega))), World.cell?_of_block (hb.block _ hlt)]
  exact ha
theorem PartOn.ne {B R : Nat} {w : World} {c : K.Cr} {ps : List Value} (h : PartOn (fromV B) w c ps) (hR : R < B) : PartOn (neB R) w c ps :=
  h.mono (Nat.le_refl _) fun k hk _ => ⟨decide_eq_true (by have := of_decide_eq_true hk; omega), rfl⟩
theorem own_below {w w' : World} {B size n : Nat} {e : TypeId} {v : Value} {xs : List Value} (h : w.ownsRow B e size v n xs) (hb : Below w.heap.size w w') : w'.ownsRow B e size v n xs :=
  h.kept (row := some w.heap.size) ⟨hb.os, hb.tape, hb.output, hb.size, fun q hq _ => hb.block q hq⟩ (.inr fun e => by have := (h.lt _ e).2; omega)
theorem info_span : (Tryd.prog.info? 47).map (fun i => (i.zero, i.size, i.bytes)) = some (some (.agg #[.int .i64 0, .int .i64 0]), 2, 16) := by kernel_rfl
theorem wpList_append_span {ops : Array Oper} {rest : List Oper} {o : Oper} {a : Act} {w : World} {Q : Exit → Act → World → Prop} (hgd : o.guard = none) (s x : Operand)
    (ho : o.op = .call { callee := .builtin .append, args := #[s, x], argTypes := #[33, 33] }) (base : Nat) (v : Value) (n : Nat) (xs : List Value) (hs : a.eval s = v)
    (hown : w.ownsRow base 47 2 v n xs) (b : Nat) (f t : Int) (hx : a.eval x = .slice (some ⟨b, 0, none⟩) 1 1) (c0 : w.cell? ⟨b, 0, none⟩ = some (.int .i64 f)) (c1 : w.cell? ⟨b, 1, none⟩ = some (.int .i64 t)) (hn : n < 1000000) (hbase : base ≤ w.heap.size)
    (h : ∀ v' w', w'.ownsRow base 47 2 v' (n + 1) (xs ++ [.int .i64 f, .int .i64 t]) → w.grownBy w' v.ownBlock → wpList Tryd.prog ops Q rest (a.put o.dst v') w') : wpList Tryd.prog ops Q (o :: rest) a w := by
  obtain ⟨i0, hi, hz0, hz1, hz2⟩ := info_parts info_span
  refine wpList_append_own w hgd s x _ ho base 47 i0 (.agg #[.int .i64 0, .int .i64 0]) 2 16 Tryd.underlying33 hi hz0 hz1 hz2 rfl (by decide) v n xs hs hown ⟨b, 0, none⟩ 1 1 [.int .i64 f, .int .i64 t] hx rfl ?_ (by simp [Value.oneCell']) (by unfold maxLen; omega) (by omega) hbase ?_
  · intro j u hj
    rw [addr_at]
    match j, hj with
    | 0, hj => rw [← hj]; exact c0
    | 1, hj => rw [← hj]; exact c1
  · intro v' w' g1 g2 _
    exact h v' w' g1 g2
set_option maxHeartbeats 4000000 in
theorem of_ok {c : K.Cr} {v : Vl} {cs ds : List Value} {w : World} (hc : K.Cr.at w c cs) (hv : Vl.at w v ds) (at_ : Int) (n : Nat) (h : 0 ≤ at_ ∧ at_ ≤ 1073741824 ∧ n ≤ 32) (hg : goodV c v = true) :
    Calls Tryd.prog 13 #[.agg cs.toArray, .agg ds.toArray, .int .i64 at_, .int .i64 (n : Int)] w (SpPost w (spansL at_ (cap c v (at_, none32)) n) 0) := by
  obtain ⟨W, hW⟩ : ∃ W, W = (w.alloc (.cells cs.toArray 28)).alloc (.cells ds.toArray 39) := ⟨_, rfl⟩
  have hbW : Below w.heap.size w W := by rw [hW]; exact ((Below.refl _ _).alloc (Nat.le_refl _) _).alloc (by simp) _
  have hcb : K.Core7 W w.heap.size 0 cs := by
    rw [hW]
    exact core7_below (K.core7_in (World.alloc_heap_new w (.cells cs.toArray 28)) (K.at_len hc)) (by simp) (K.alloc_below _ _)
  have hvb : Val3 W (w.heap.size + 1) 0 ds := by
    have h := World.alloc_heap_new (w.alloc (.cells cs.toArray 28)) (.cells ds.toArray 39)
    rw [World.size_alloc] at h
    rw [hW]
    exact val3_in h (at_len hv)
  have hcall := good_any (K.Cr.at_below hbW (Nat.le_refl _) _ _ hc) (Vl.at_below hbW (Nat.le_refl _) _ _ hv)
  rw [hg] at hcall
  have hat := And.intro hc hv
  obtain ⟨k1, s1, n1, a1, len1, cap1, rfl⟩ := K.at_lit hc
  obtain ⟨k2, z2, a2, len2, cap2, rfl⟩ := at_lit hv
  have Hend := Lib.hid hbW
  have Hc := Lib.hid hcall
  have H7 := Lib.hid (And.intro hcb hvb)
  have Hat := Lib.hid (And.intro hat hg)
  obtain ⟨h1, h2, h4⟩ := h
  have d1 : decide (at_ < 0) = false := decide_eq_false (by omega)
  have d2 : decide (1073741824 < at_) = false := decide_eq_false (by omega)
  have d3 : decide ((n : Int) < 0) = false := decide_eq_false (by omega)
  have d4 : decide ((32 : Int) < n) = false := decide_eq_false (by omega)
  have d5 : decide (32 < n) = false := decide_eq_false (by omega)
  have Hn := Lib.hid (And.intro h1 (And.intro h2 h4))
  clear hc hv hbW hcb hvb hcall h1 h2 h4 hg hat
  go_enter Tryd.func13, Tryd.ntmps13
  go_upto_region 1 with fail
  rw [← hW]
  clear hW
  go_upto_region 3 with (first
    | (refine K.wpList_load_node_want rfl _ rfl w.heap.size 0 _ rfl H7.out.1 ?_)
    | (refine wpList_load_val_want rfl _ rfl (w.heap.size + 1) 0 _ rfl H7.out.2 ?_)
    | (go_at_call 32; refine (Hc.out).mono ?_; rintro e w3 ⟨rfl, hb3⟩; have Hb3 := Lib.hid hb3; clear hb3)
    | fail)
  go_upto_region 4 with (first
    | (refine wpList_store_wk rfl _ _ rfl w3.heap.size _ _ rfl rfl (World.alloc_heap_new w3 _) (by kernel_rfl) (by kernel_rfl) (by kernel_rfl) ?_; intro w4 hw4 ho4; have H4 := Lib.hid (And.intro hw4 ho4); clear hw4 ho4)
    | fail)
  have Hwd := Lib.hid (show wrap64 at_ = at_ by have := Hn.out; unfold wrap64; omega)
  obtain ⟨⟨hc, hv⟩, hg⟩ := Hat.out
  have hs3 : w.heap.size + 2 ≤ w3.heap.size := by
    have h1 := Hb3.out.size
    have h2 := H7.out.2.lt
    omega
  have hb3 : Below w.heap.size w w3 := Hend.out.trans (Hb3.out.mono Hend.out.size)
  have h34 : Below w3.heap.size w3 w4 := H4.out.2.below (K.alloc_below w3 (.cells Tryd.zeroCells80 80)) (Nat.le_refl _)
  have hk4 := wk_start H4.out.1 Hwd.out
  have hgf : c.form = true := by
    unfold goodV K.goodC at hg
    simp only [Bool.and_eq_true] at hg
    exact hg.1.2
  have hbel : bel c v = true := by
    unfold goodV at hg
    rw [Bool.and_eq_true] at hg
    exact hg.2
  have hb4 := hb3.trans (h34.mono hb3.size)
  have hmake := part_any _ c (Nat.le_refl _) hgf _ w4 (K.Cr.at_below hb4 (Nat.le_refl _) _ _ hc)
  have hc4 := core7_below H7.out.1 (by have := H7.out.2.lt; omega) (Hb3.out.trans (h34.mono Hb3.out.size))
  have hv4 := H7.out.2.below H7.out.2.lt (Hb3.out.trans (h34.mono Hb3.out.size))
  have H8 := Lib.hid (And.intro hc4 (And.intro hv4 hv4.lt))
  have Hm := Lib.hid (And.intro hmake (And.intro hk4 (And.intro hb4 (And.intro hs3 (And.intro hgf hbel)))))
  have hs4 : w3.heap.size < w4.heap.size := hk4.lt
  have Hs4 := Lib.hid hs4
  clear hc hv hg hb3 h34 hk4 hgf hbel hb4 hmake hc4 hv4 H4 H7 hs3 hs4
  go_upto_region 5 with (first
    | (refine K.wpList_load_core rfl _ rfl w.heap.size 0 _ rfl H8.out.1 ?_)
    | (go_at_call 37; refine (Hm.out.1).mono ?_; rintro e w5 ⟨kx, nx, ax, lenx, capx, rfl, hp5, hb5⟩; have H5 := Lib.hid (And.intro hp5 hb5); clear hp5 hb5)
    | fail)
  obtain ⟨w6, hw6⟩ : ∃ w6, w6 = w5.alloc (.cells #[.int .i64 kx, .int .i64 nx, .int .u64 (gb c), .slice ax lenx capx] 83) := ⟨_, rfl⟩
  have hal6 : Below w5.heap.size w5 w6 := by rw [hw6]; exact K.alloc_below _ _
  have hp6 : PartIn w6 w5.heap.size #[.int .i64 kx, .int .i64 nx, .int .u64 (gb c), .slice ax lenx capx] := by rw [hw6]; exact World.alloc_heap_new w5 _
  rw [← hw6]
  clear hw6
  obtain ⟨hmake, hk4, hb4, hs3, hgf, hbel⟩ := Hm.out
  have h46 : Below w4.heap.size w4 w6 := H5.out.2.trans (hal6.mono H5.out.2.size)
  have hb6 := hb4.trans (h46.mono hb4.size)
  have hs5 := H5.out.2.size
  have hwalk := cap_ok _ c (Nat.le_refl _) hgf v w5.heap.size 0 _ _ (at_, none32) w6 hbel (part4_in (cs := [.int .i64 kx, .int .i64 nx, .int .u64 (gb c), .slice ax lenx capx]) hp6 rfl) (by have := Hs4.out; omega)
    ((H5.out.1.below hal6).ne Hs4.out) (ValOn.of_old (R := w3.heap.size) Hat.out.1.2 hb6 (by omega)) (hk4.later h46)
  have hv6 := H8.out.2.1.below H8.out.2.2 h46
  have H9 := Lib.hid (And.intro hwalk (And.intro hv6 (And.intro hb6 hs3)))
  clear hal6 hp6 hmake hk4 hb4 hs3 hgf hbel h46 hb6 hs5 hwalk hv6 H8 Hm H5 Hs4
  go_upto_region 6 with (first
    | (refine wpList_load_val rfl _ rfl (w.heap.size + 1) 0 _ rfl H9.out.2.1 ?_)
    | (go_at_call 38; refine (H9.out.1).mono ?_; rintro e w7 ⟨rfl, hw7, hk7⟩; have H10 := Lib.hid (And.intro hw7 hk7); clear hw7 hk7)
    | fail)
  obtain ⟨hw7, hk7⟩ := H10.out
  have hR7 := hw7.lt
  have hb7 : Below w.heap.size w w7 := hk7.below H9.out.2.2.1 (by have := H9.out.2.2.2; omega) (by have := H9.out.2.2.2; omega) H9.out.2.2.1.size
  obtain ⟨P, hP⟩ : ∃ P, P = cap c v (at_, none32) := ⟨_, rfl⟩
  rw [← hP] at hw7
  have HP := Lib.hid hP
  obtain ⟨rs, z, hraw⟩ := hw7.open
  obtain ⟨r0, _, _⟩ := hraw.cells
  obtain ⟨w8, hw8⟩ : ∃ w8, w8 = w7.alloc (.cells #[.int .i64 at_, .int .i64 (wrap64 P.1)] 47) := ⟨_, rfl⟩
  have hal8 : Below w7.heap.size w7 w8 := by rw [hw8]; exact K.alloc_below _ _
  have hown8 : w8.ownsRow w7.heap.size 47 2 (.slice (some ⟨w7.heap.size, 0, none⟩) 1 1) 1 (spCells (spansL at_ P 0)) := by
    rw [hw8]
    have e : spCells (spansL at_ P 0) = [.int .i64 at_, .int .i64 (wrap64 P.1)] := by
      unfold spansL spCells
      rw [Hwd.out]; rfl
    rw [e]
    exact World.ownsRow_lit w7 #[.int .i64 at_, .int .i64 (wrap64 P.1)] 1 (Nat.le_refl _) (by unfold maxLen; omega) rfl
  have H11 := Lib.hid (And.intro (hw7.later hal8) (And.intro (hb7.trans (hal8.mono hb7.size)) (And.intro hR7 (And.intro hal8.size (And.intro hown8 hb7.size)))))
  have hnI : (n : Int) ≤ 9223372036854775807 := by have := Hn.out; omega
  clear hraw hk7 hb7 hal8 hown8 hw7 H10 H9 hR7 hP Hat
  go_wp2_with fail
  rw [← hw8]
  clear hw8
  go_wp2_with fail
  go_loopw [12, 46] (fun vv i wr => ∃ (j : Nat) (v0 : Value), v0 = vv ∧ i = .int .i64 j ∧ j ≤ n ∧ Hid (wr.ownsRow w7.heap.size 47 2 v0 (j + 1) (spCells (spansL at_ P j))) ∧ Hid (WkAt wr w3.heap.size P) ∧ Hid (Below w.heap.size w wr) ∧ Hid (w7.heap.size ≤ wr.heap.size)) (fun _ i _ => n - (intOf i).toNat)
  case atStart => exact ⟨0, _, rfl, rfl, Nat.zero_le _, Lib.hid H11.out.2.2.2.2.1, Lib.hid H11.out.1, Lib.hid H11.out.2.1, Lib.hid H11.out.2.2.2.1⟩
  case round =>
    obtain ⟨j, v0, rfl, rfl, hj, hown, hwk, hbr, hsr⟩ := hrel
    have ho := hown.out
    have hjlen : j + 1 = (spansL at_ P j).length := (spansL_len _ _ _).symm
    rw [hjlen] at ho
    obtain ⟨av, capv, rfl, hsp⟩ := sp_of_owns ho (by rw [← hjlen]; omega)
    rw [← hjlen] at hown ⊢
    have Hsp := Lib.hid hsp
    have Hjl := Lib.hid hjlen
    clear ho hsp hjlen
    by_cases hjn : j < n
    · have hd : decide ((j : Int) < n) = true := by simp; omega
      have hcall := span_any hwk.out (j + 1) (by have := Hn.out; omega)
      have hsucc := spansL_succ at_ P j
      have hcast : (((j + 1 : Nat) : Int)) = (j : Int) + 1 := by omega
      rw [hcast] at hcall
      generalize spW (P.2 (j + 1)) = sp at hcall hsucc
      have Hcall := Lib.hid hcall
      have Hsucc := Lib.hid hsucc
      clear hcall hsucc hcast
      go_upto_region 11 with (first
        | (go_at_call 39; refine (Hcall.out).mono ?_; rintro e w9 ⟨rfl, hb9⟩; have H9 := Lib.hid hb9; have Hc0 := Lib.hid (World.alloc_heap_new w9 (.cells #[.int .i64 sp.1, .int .i64 sp.2] 47)); have Hown9 := Lib.hid (own_below (own_below hown.out hb9) (K.alloc_below w9 (.cells #[.int .i64 sp.1, .int .i64 sp.2] 47))); clear hb9)
        | (at_builtin; refine wpList_append_span rfl _ _ rfl w7.heap.size (.slice av (j + 1) capv) (j + 1) (spCells (spansL at_ P j)) rfl Hown9.out w9.heap.size sp.1 sp.2 rfl (by rw [cells_at Hc0.out]; rfl) (by rw [cells_at Hc0.out]; rfl) (by have := Hn.out; omega) (by rw [World.size_alloc]; have := H9.out.size; have := hsr.out; omega) ?_; intro v' w10 hown10 hgr10; have H10 := Lib.hid (And.intro hown10 hgr10); clear hown10 hgr10)
        | fail)
      obtain ⟨hown10, hgr10⟩ := H10.out
      have hR := hwk.out.lt
      have hR7 := H11.out.2.2.1
      have h9b : Below w.heap.size w (w9.alloc (.cells #[.int .i64 sp.1, .int .i64 sp.2] 47)) := (hbr.out.trans (H9.out.mono hbr.out.size)).trans ((K.alloc_below _ _).mono (by have := hbr.out.size; have := H9.out.size; omega))
      have hb10 : Below w.heap.size w w10 := h9b.grown hgr10 h9b.size (fun k hk => by have := (hown.out.lt k hk).1; have := H11.out.2.2.2.2.2; omega)
      have hwk9 : WkAt (w9.alloc (.cells #[.int .i64 sp.1, .int .i64 sp.2] 47)) w3.heap.size P := (hwk.out.later H9.out).later (K.alloc_below _ _)
      have hwk10 : WkAt w10 w3.heap.size P := hwk9.same (hgr10.block _ hwk9.lt (fun e => by have := (hown.out.lt _ e.symm).1; omega))
      have hs10 : w7.heap.size ≤ w10.heap.size := by have h1 := hgr10.size; rw [World.size_alloc] at h1; have := H9.out.size; have := hsr.out; omega
      have hown' : w10.ownsRow w7.heap.size 47 2 v' (j + 1 + 1) (spCells (spansL at_ P (j + 1))) := by rw [Hsucc.out, spCells_snoc]; exact hown10
      have Hn10 := Lib.hid hown'
      have Hn11 := Lib.hid hwk10
      have Hn12 := Lib.hid hb10
      have Hn13 := Lib.hid hs10
      clear hown10 hgr10 hR hR7 h9b hb10 hwk9 hwk10 hs10 hown' H10
      go_wp2_with fail
      go_roundw
      case rel => exact ⟨j + 1, _, rfl, by go_num, by omega, Hn10, Hn11, Hn12, Hn13⟩
      case measure => simp [intOf]; omega
    · have hd : decide ((j : Int) < n) = false := by simp; omega
      obtain rfl : j = n := by omega
      go_wp2_with fail
      rw [← HP.out]
      refine bodyPost_ret (v := .tuple #[.slice av (j + 1) capv, .int .i64 0]) (by simp [results, Tryd.results13, go_sem]) rfl ⟨av, capv, by rw [spansL_len], Hsp.out, hbr.out⟩
theorem of_any {c : K.Cr} {v : Vl} {cs ds : List Value} {w : World} (hc : K.Cr.at w c cs) (hv : Vl.at w v ds) (at_ n : Int) :
    Calls Tryd.prog 13 #[.agg cs.toArray, .agg ds.toArray, .int .i64 at_, .int .i64 n] w (SpPost w (ofSp c v at_ n) (ofErr c v at_ n)) := by
  unfold ofSp ofErr okOf
  by_cases h : 0 ≤ at_ ∧ at_ ≤ 1073741824 ∧ 0 ≤ n ∧ n ≤ 32
  · rw [decide_eq_true h, Bool.true_and]
    cases hg : goodV c v with
    | false => exact of_other hc hv at_ n h hg
    | true =>
      have hn : n = ((n.toNat : Nat) : Int) := by omega
      have := of_ok hc hv at_ n.toNat ⟨h.1, h.2.1, by omega⟩ hg
      rw [← hn] at this
      exact this
  · rw [decide_eq_false h, Bool.false_and]
    exact of_bad hc hv at_ n (by omega)
end V
end Go.Proofs.YtonhmjfopidacaaDoor
