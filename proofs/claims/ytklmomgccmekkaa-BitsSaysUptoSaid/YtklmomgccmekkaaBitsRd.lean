/- BitsKit, BitsRead1, BitsRead2, BitsStar, BitsValue, BitsGet, as one. -/
import Derived.Test.YtklmomgccmekkaaBitsMath
import Derived.Test.YtklmomgccmekkaaBlockMem
import Derived.Maps.AppendAt
import Derived.Test.YtklmomgccmekkaaHold
import Derived.Deep.DeepCutAuto
import Derived.Deep.LoopGhost
namespace Go.Proofs.Ytklmomgccmekkaa
namespace V
set_option maxRecDepth 100000
open Go.RowKit
/-- a world of which only the blocks with p can be read -/
def dim (p : Nat → Bool) (w : World) : World := { w with heap := w.heap.mapIdx fun i o => if p i then o else .deferred none }
theorem dim_size (p : Nat → Bool) (w : World) : (dim p w).heap.size = w.heap.size := by simp [dim]
theorem dim_block {p : Nat → Bool} {w : World} {k : Nat} (h : p k = true) : (dim p w).heap[k]? = w.heap[k]? := by
  simp only [dim, Array.getElem?_mapIdx]
  cases hk : w.heap[k]? with
  | none => rfl
  | some o => simp [h]
theorem dim_cell {p : Nat → Bool} {w : World} {a : Addr} {v : Value} (h : (dim p w).cell? a = some v) : p a.block = true ∧ w.cell? a = some v := by
  cases hp : p a.block with
  | true => exact ⟨rfl, by rw [← h]; exact (World.cell?_of_block (dim_block hp)).symm⟩
  | false =>
    exfalso
    unfold World.cell? at h
    simp only [dim, Array.getElem?_mapIdx, hp] at h
    cases hk : w.heap[a.block]? with
    | none => rw [hk] at h; cases h
    | some o => rw [hk] at h; cases h
mutual
theorem Vl.at_move {w w' : World} (h : ∀ p v, w.cell? p = some v → w'.cell? p = some v) (hs : w.heap.size ≤ w'.heap.size) : ∀ (x : Vl) (cs : List Value), Vl.at w x cs → Vl.at w' x cs
  | .mk k z l, cs, ha => by
    rw [at_mk] at ha ⊢
    obtain ⟨h1, h4, a, cap, h5, h6, h7⟩ := ha
    refine ⟨h1, h4, a, cap, h5, h6, ?_⟩
    rcases h7 with h7 | ⟨b, off, e1, e2, e3, e4⟩
    · exact .inl h7
    · exact .inr ⟨b, off, e1, e2, Nat.lt_of_lt_of_le e3 hs, valsAt_move h hs l b off e4⟩
theorem valsAt_move {w w' : World} (h : ∀ p v, w.cell? p = some v → w'.cell? p = some v) (hs : w.heap.size ≤ w'.heap.size) : ∀ (l : List Vl) (b off : Nat), valsAt w l b off → valsAt w' l b off
  | [], b, off, _ => by rw [valsAt_nil]; trivial
  | x :: l, b, off, ha => by
    rw [valsAt_cons] at ha ⊢
    obtain ⟨⟨cs, h1, h2, h3⟩, h4⟩ := ha
    refine ⟨⟨cs, h1, fun q hq => ?_, Vl.at_move h hs x cs h3⟩, valsAt_move h hs l b (off + 3) h4⟩
    have h5 := h2 q hq
    rw [List.getElem?_eq_getElem (by omega)] at h5 ⊢
    exact h _ _ h5
end
/-- a value that hangs on blocks with p alone -/
def ValOn (p : Nat → Bool) (w : World) (x : Vl) (cs : List Value) : Prop := Vl.at (dim p w) x cs
theorem ValOn.mono {p q : Nat → Bool} {w w' : World} {x : Vl} {cs : List Value} (h : ValOn p w x cs) (hs : w.heap.size ≤ w'.heap.size) (hk : ∀ k, p k = true → k < w.heap.size → q k = true ∧ w'.heap[k]? = w.heap[k]?) : ValOn q w' x cs := by
  refine Vl.at_move (fun a v ha => ?_) (by rw [dim_size, dim_size]; exact hs) x cs h
  obtain ⟨h1, h2⟩ := dim_cell ha
  have h3 := hk _ h1 (World.block_lt_of_cell? w _ h2)
  rw [World.cell?_of_block (dim_block h3.1), World.cell?_of_block h3.2]
  exact h2
theorem ValOn.at {p : Nat → Bool} {w : World} {x : Vl} {cs : List Value} (h : ValOn p w x cs) : Vl.at w x cs :=
  Vl.at_move (fun _ _ ha => (dim_cell ha).2) (by rw [dim_size]; exact Nat.le_refl _) x cs h
theorem ValOn.plain (p : Nat → Bool) (w : World) {k : Int} {z : Nat} (hk : fits64 k) (hz : z < 256) : ValOn p w (.mk k z []) [.int .i64 k, .int .u8 z, .slice none 0 0] := at_plain hk hz
/-- from block B on -/
abbrev fromV (B : Nat) : Nat → Bool := fun k => decide (B ≤ k)
theorem ValOn.below {B : Nat} {w w' : World} {x : Vl} {cs : List Value} (h : ValOn (fromV B) w x cs) (hb : Below w.heap.size w w') : ValOn (fromV B) w' x cs :=
  h.mono hb.size fun k h1 h2 => ⟨h1, hb.block k h2⟩
/-- blocks R and g apart, all that is there is as before -/
structure Kept (R g : Nat) (w w' : World) : Prop where
  os : w'.os = w.os
  tape : w'.tape = w.tape
  output : w'.output = w.output
  size : w.heap.size ≤ w'.heap.size
  block : ∀ k, k < w.heap.size → k ≠ R → k ≠ g → w'.heap[k]? = w.heap[k]?
theorem Kept.refl (R g : Nat) (w : World) : Kept R g w w := ⟨rfl, rfl, rfl, Nat.le_refl _, fun _ _ _ _ => rfl⟩
theorem Kept.trans {R g : Nat} {a b c : World} (h : Kept R g a b) (h' : Kept R g b c) : Kept R g a c :=
  ⟨h'.os.trans h.os, h'.tape.trans h.tape, h'.output.trans h.output, Nat.le_trans h.size h'.size, fun k hk hR hg => (h'.block k (Nat.lt_of_lt_of_le hk h.size) hR hg).trans (h.block k hk hR hg)⟩
theorem Kept.of_below {R g : Nat} {w w' : World} (h : Below w.heap.size w w') : Kept R g w w' := ⟨h.os, h.tape, h.output, h.size, fun k hk _ _ => h.block k hk⟩
theorem Kept.of_only {R g : Nat} {w w' : World} (h : Only R w w') : Kept R g w w' := ⟨h.os, h.tape, h.output, Nat.le_of_eq h.size.symm, fun k _ hR _ => h.block k hR⟩
theorem Kept.more {R g : Nat} {w w' : World} (h : Kept R R w w') : Kept R g w w' := ⟨h.os, h.tape, h.output, h.size, fun k hk hR _ => h.block k hk hR hR⟩
/-- what was made later may turn -/
theorem Kept.less {R g : Nat} {w w1 w' : World} (h : Kept R R w w1) (h' : Kept R g w1 w') (hg : w.heap.size ≤ g) : Kept R R w w' :=
  ⟨h'.os.trans h.os, h'.tape.trans h.tape, h'.output.trans h.output, Nat.le_trans h.size h'.size, fun k hk hR _ => (h'.block k (Nat.lt_of_lt_of_le hk h.size) hR (by omega)).trans (h.block k hk hR hR)⟩
theorem Kept.below {B R g : Nat} {a w w' : World} (h : Kept R g w w') (hb : Below B a w) (hR : B ≤ R) (hg : B ≤ g) (hs : B ≤ w.heap.size) : Below B a w' :=
  hb.trans ⟨h.os, h.tape, h.output, h.size, fun k hk => h.block k (Nat.lt_of_lt_of_le hk hs) (by omega) (by omega)⟩
theorem Kept.only {R g c : Nat} {w w' w'' : World} (h : Kept R g w w') (ho : Only c w' w'') (hc : w.heap.size ≤ c) : Kept R g w w'' :=
  ⟨ho.os.trans h.os, ho.tape.trans h.tape, ho.output.trans h.output, by rw [ho.size]; exact h.size, fun k hk hR hg => (ho.block k (by omega)).trans (h.block k hk hR hg)⟩
theorem Kept.val {R g : Nat} {w w' : World} (h : Kept R g w w') {b : Nat} {cs : Array Value} (hv : ValIn w b cs) (hR : b ≠ R) (hg : b ≠ g) : ValIn w' b cs :=
  (h.block b (lt_of_block hv) hR hg).trans hv
theorem Kept.core {R g : Nat} {w w' : World} (h : Kept R g w w') {b : Nat} {cs : Array Value} (hv : K.CoreIn w b cs) (hR : b ≠ R) (hg : b ≠ g) : K.CoreIn w' b cs :=
  (h.block b (lt_of_block hv) hR hg).trans hv
/-- bytes behind the first -/
theorem bytes_tail {w : World} {b off n cap : Nat} {x : Nat} {l : List Nat} (h : BytesAt w (some ⟨b, off, none⟩) (n + 1) cap (x :: l)) {a' : Addr} {c' : Nat} (ha : cap = 1 ∨ a' = (⟨b, off + 1, none⟩ : Addr)) (hc : c' = cap - 1) : BytesAt w (some a') n c' l := by
  obtain ⟨h1, h2, h3, h4⟩ := h
  have hn : n = l.length := by simpa using h1
  refine ⟨hn, fun y hy => h2 y (by simp [hy]), by omega, ?_⟩
  by_cases h0 : n = 0
  · exact .inl h0
  · rcases h4 with h4 | ⟨b', off', e, hcap, hlt, hr⟩
    · omega
    · cases e
      rcases ha with ha | rfl
      · omega
      · refine .inr ⟨b, off + 1, rfl, by omega, hlt, fun j hj => ?_⟩
        have := hr (j + 1) (by omega)
        rw [show off + 1 + j = off + (j + 1) from by omega, this]
        simp
theorem bytes_first {w : World} {a : Option Addr} {n cap : Nat} {x : Nat} {l : List Nat} (h : BytesAt w a n cap (x :: l)) : n = l.length + 1 ∧ x < 256 ∧ n ≤ maxLen ∧ ∃ b off, a = some ⟨b, off, none⟩ ∧ n ≤ cap ∧ b < w.heap.size ∧ w.cell? ⟨b, off, none⟩ = some (u8v x) := by
  obtain ⟨h1, h2, h3, h4⟩ := h
  refine ⟨by simpa using h1, h2 x (by simp), h3, ?_⟩
  rcases h4 with h4 | ⟨b, off, e, hcap, hlt, hr⟩
  · rw [h4] at h1; simp at h1
  · exact ⟨b, off, e, hcap, hlt, by have := hr 0 (by rw [h1]; simp); simpa using this⟩
/-- the reader in block R: its choices, its bytes -/
def RdB (Wc w : World) (R : Nat) (t : ByteArray) (s : List Nat) : Prop :=
  ∃ a cap, w.heap[R]? = some (.cells #[.string t, .slice a s.length cap] 72) ∧ BytesAt Wc a s.length cap s ∧ Wc.heap.size ≤ R ∧ s.length ≤ 256 ∧ t.size ≤ 9223372036854775807
theorem RdB.lt {Wc w : World} {R : Nat} {t : ByteArray} {s : List Nat} (h : RdB Wc w R t s) : R < w.heap.size := by
  obtain ⟨_, _, h, _⟩ := h
  exact lt_of_block h
theorem RdB.same {Wc w w' : World} {R : Nat} {t : ByteArray} {s : List Nat} (h : RdB Wc w R t s) (hb : w'.heap[R]? = w.heap[R]?) : RdB Wc w' R t s := by
  obtain ⟨a, cap, h1, h2⟩ := h
  exact ⟨a, cap, hb.trans h1, h2⟩
theorem RdB.later {Wc w w' : World} {R : Nat} {t : ByteArray} {s : List Nat} (h : RdB Wc w R t s) (hb : Below w.heap.size w w') : RdB Wc w' R t s := h.same (hb.block R h.lt)
theorem RdB.alloc {Wc w : World} {R : Nat} {t : ByteArray} {s : List Nat} (h : RdB Wc w R t s) (o : Obj) : RdB Wc (w.alloc o) R t s := h.later ((Below.refl _ _).alloc (Nat.le_refl _) o)
theorem RdB.only {Wc w w' : World} {R c : Nat} {t : ByteArray} {s : List Nat} (h : RdB Wc w R t s) (ho : Only c w w') (hc : R ≠ c) : RdB Wc w' R t s := h.same (ho.block R hc)
theorem rdb_cells {w : World} {R : Nat} {v0 v1 : Value} (h : w.heap[R]? = some (.cells #[v0, v1] 72)) : w.cell? ⟨R, 0, none⟩ = some v0 ∧ w.cell? ⟨R, 1, none⟩ = some v1 ∧ ∀ o, w.frozen? ⟨R, o, none⟩ = false := by
  refine ⟨?_, ?_, fun o => by simp [World.frozen?, h]⟩
  · rw [cells_at h]; rfl
  · rw [cells_at h]; rfl
theorem only_set (w : World) (R q : Nat) (v : Value) : Only R w (w.setCell ⟨R, q, none⟩ v) := ⟨rfl, rfl, rfl, by simp, fun k hk => heap_setCell_other w _ k _ hk⟩
/-- other choices in the box -/
theorem RdB.bits {Wc w : World} {R : Nat} {t : ByteArray} {s : List Nat} (h : RdB Wc w R t s) (u : ByteArray) (hu : u.size ≤ 9223372036854775807) : RdB Wc (w.setCell ⟨R, 0, none⟩ (.string u)) R u s := by
  obtain ⟨a, cap, h1, h2, h3, h4, _⟩ := h
  refine ⟨a, cap, ?_, h2, h3, h4, hu⟩
  rw [heap_setCell_same w R 0 _ _ _ h1]; rfl
/-- other bytes in the box -/
theorem RdB.bytes {Wc w : World} {R : Nat} {t : ByteArray} {s r : List Nat} {a : Option Addr} {n cap : Nat} (h : RdB Wc w R t s) (hb : BytesAt Wc a n cap r) (hr : r.length ≤ 256) : RdB Wc (w.setCell ⟨R, 1, none⟩ (.slice a n cap)) R t r := by
  obtain ⟨a0, cap0, h1, h2, h3, h4, h5⟩ := h
  obtain rfl := hb.1
  refine ⟨a, cap, ?_, hb, h3, hr, h5⟩
  rw [heap_setCell_same w R 1 _ _ _ h1]; rfl
theorem val_zero_free {w : World} {b : Nat} {cs : Array Value} (h : ValIn w b cs) (o : Nat) : w.frozen? ⟨b, o, none⟩ = false := by
  unfold ValIn at h
  simp [World.frozen?, h]
/-! a list that grows -/
abbrev onRow (B : Nat) (v : Value) : Nat → Bool := fun b => decide (B ≤ b) && decide (v.ownBlock ≠ some b)
def Grow (w1 : World) (R g : Nat) (k : Int) (v : Value) (acc : List (Vl × List Value)) (W : World) : Prop :=
  (∀ p ∈ acc, ValOn (onRow w1.heap.size v) W p.1 p.2) ∧ ValIn W g #[.int .i64 k, .int .u8 0, v] ∧ W.ownsRow w1.heap.size 35 3 v acc.length (acc.flatMap (·.2)) ∧ Kept R g w1 W
theorem Grow.start {w1 : World} {R g : Nat} {k : Int} (h : ValIn w1 g #[.int .i64 k, .int .u8 0, .slice none 0 0]) : Grow w1 R g k (.slice none 0 0) [] w1 :=
  ⟨(fun p hp => by cases hp), h, World.ownsRow_nil _ _ _ _, Kept.refl _ _ _⟩
theorem Grow.call {w1 W W' : World} {R g : Nat} {k : Int} {v : Value} {acc : List (Vl × List Value)} (h : Grow w1 R g k v acc W) (hb : Kept R R W W') (hR : R < w1.heap.size) (hg : R ≠ g) : Grow w1 R g k v acc W' := by
  obtain ⟨h1, h2, h3, h4⟩ := h
  refine ⟨fun p hp => (h1 p hp).mono hb.size fun q h5 h6 => ⟨h5, hb.block q h6 ?_ ?_⟩, hb.val h2 hg.symm hg.symm, ?_, h4.trans hb.more⟩
  · simp only [onRow, Bool.and_eq_true, decide_eq_true_eq] at h5; omega
  · simp only [onRow, Bool.and_eq_true, decide_eq_true_eq] at h5; omega
  · exact h3.kept (row := some R) ⟨hb.os, hb.tape, hb.output, hb.size, fun q hq hne => hb.block q hq (fun e => hne (by rw [e])) (fun e => hne (by rw [e]))⟩ (.inr fun e => by have := (h3.lt R e).1; omega)
theorem Grow.later {w1 W W' : World} {R g : Nat} {k : Int} {v : Value} {acc : List (Vl × List Value)} (h : Grow w1 R g k v acc W) (hb : Below W.heap.size W W') (hR : R < w1.heap.size) (hg : R ≠ g) : Grow w1 R g k v acc W' := h.call (Kept.of_below hb) hR hg
/-- one more -/
theorem Grow.more {w1 W w5 : World} {R g : Nat} {k : Int} {v v' : Value} {acc : List (Vl × List Value)} {y : Vl} {cs : List Value} {B2 : Nat} (h : Grow w1 R g k v acc W) (hg : g < w1.heap.size) (hB : w1.heap.size ≤ B2) (hy : ValOn (fromV B2) W y cs)
    (hv : ∀ q, v.ownBlock = some q → q < B2) (ho : w5.ownsRow w1.heap.size 35 3 v' (acc.length + 1) (acc.flatMap (·.2) ++ cs)) (hgr : W.grownBy w5 v.ownBlock)
    (hf : v'.ownBlock = v.ownBlock ∨ v'.ownBlock = some W.heap.size) : Grow w1 R g k v' (acc ++ [(y, cs)]) (w5.setCell ⟨g, 2, none⟩ v') := by
  obtain ⟨h1, h2, h3, h4⟩ := h
  have hs5 := hgr.size
  have hs1 := h4.size
  have hkeep : ∀ q, q < W.heap.size → q ≠ g → v.ownBlock ≠ some q → (w5.setCell ⟨g, 2, none⟩ v').heap[q]? = W.heap[q]? := fun q hq hne hvq => by
    rw [heap_setCell_other _ _ _ _ hne]
    exact hgr.block q hq (fun e => hvq e.symm)
  have hv' : ∀ q, q < W.heap.size → v.ownBlock ≠ some q → v'.ownBlock ≠ some q := fun q hq hne e => by
    rcases hf with hf | hf
    · exact hne (by rw [← hf, e])
    · rw [hf] at e; injection e with e; omega
  have hgv : v.ownBlock ≠ some g := fun e => by have := (h3.lt g e).1; omega
  have hbx : ValIn w5 g #[.int .i64 k, .int .u8 0, v] := (hgr.block g (by omega) (fun e => hgv e.symm)).trans h2
  refine ⟨?_, ?_, ?_, ?_⟩
  · intro p hp
    rcases List.mem_append.1 hp with hp | hp
    · refine (h1 p hp).mono (by simp; omega) fun q hq hlt => ?_
      simp only [onRow, Bool.and_eq_true, decide_eq_true_eq] at hq ⊢
      exact ⟨⟨hq.1, hv' q hlt hq.2⟩, hkeep q hlt (by omega) hq.2⟩
    · rw [List.mem_singleton] at hp
      subst hp
      refine hy.mono (by simp; omega) fun q hq hlt => ?_
      simp only [onRow, fromV, Bool.and_eq_true, decide_eq_true_eq] at hq ⊢
      have hne : v.ownBlock ≠ some q := fun e => by have := hv q e; omega
      exact ⟨⟨by omega, hv' q hlt hne⟩, hkeep q hlt (by omega) hne⟩
  · show _ = _
    rw [heap_setCell_same w5 g 2 _ _ _ hbx]; rfl
  · rw [List.flatMap_append, List.length_append]
    have h := ownsRow_setCell_below ho (a := ⟨g, 2, none⟩) hg v'
    simpa using h
  · exact ⟨hgr.os.trans h4.os, hgr.tape.trans h4.tape, hgr.output.trans h4.output, by simp; omega, fun q hq hR hg' => by
      rw [hkeep q (by omega) hg' (fun e => by have := (h3.lt q e).1; omega)]
      exact h4.block q hq hR hg'⟩
/-- the value that it makes -/
theorem Grow.made {w1 W : World} {R g : Nat} {k : Int} {v : Value} {acc : List (Vl × List Value)} (h : Grow w1 R g k v acc W) (hk : fits64 k) (hn : acc.length ≤ maxLen) : ValOn (fromV w1.heap.size) W (.mk k 0 (acc.map (·.1))) [.int .i64 k, .int .u8 0, v] := by
  obtain ⟨h1, _, ho, _⟩ := h
  have h1' : ∀ q ∈ acc, ValOn (fromV w1.heap.size) W q.1 q.2 := fun q hq => (h1 q hq).mono (Nat.le_refl _) fun b hb _ => by
    simp only [onRow, Bool.and_eq_true, decide_eq_true_eq] at hb
    exact ⟨decide_eq_true hb.1, rfl⟩
  unfold ValOn
  rw [at_mk]
  have hlen : (acc.map (·.1)).length = acc.length := List.length_map ..
  rcases ho.2 with ⟨rfl, h0⟩ | ⟨q, cap, cur, rfl, hb, hg, hc, hm, hs, htake⟩
  · exact ⟨hk, by decide, none, 0, by rw [hlen, h0]; rfl, by rw [hlen]; exact hn, .inl (by rw [hlen]; exact h0)⟩
  · refine ⟨hk, by decide, some ⟨q, 0, none⟩, cap, by rw [hlen]; rfl, by rw [hlen]; exact hn, .inr ⟨q, 0, rfl, by rw [hlen]; exact hc, by rw [dim_size]; exact (Array.getElem?_eq_some_iff.1 hg).1, ?_⟩⟩
    refine valsAt_cells acc 0 h1' fun j hj => ?_
    have hl := ho.1
    obtain ⟨u, hu⟩ : ∃ u, (acc.flatMap (·.2))[j]? = some u := ⟨_, List.getElem?_eq_getElem (by omega)⟩
    have := ho.cells (g := q) rfl j u hu
    rw [addr_at] at this
    rw [World.cell?_of_block (dim_block (decide_eq_true hb)), this, hu]
theorem Grow.slice {w1 W : World} {R g : Nat} {k : Int} {v : Value} {acc : List (Vl × List Value)} (h : Grow w1 R g k v acc W) : ∃ a cap, v = .slice a acc.length cap := by
  obtain ⟨a, cap, e⟩ := owns_form h.2.2.1
  exact ⟨a, cap, e⟩
theorem info_val : (Try.prog.info? 35).map (fun i => (i.zero, i.size, i.bytes)) = some (some (.agg #[.int .i64 0, .int .u8 0, .slice none 0 0]), 3, 40) := by kernel_rfl
theorem wpList_append_val {ops : Array Oper} {rest : List Oper} {o : Oper} {a : Act} {w : World} {Q : Exit → Act → World → Prop} (hgd : o.guard = none) (s x : Operand)
    (ho : o.op = .call { callee := .builtin .append, args := #[s, x], argTypes := #[33, 33] })
    (base : Nat) (v : Value) (n : Nat) (xs : List Value) (hs : a.eval s = v) (hown : w.ownsRow base 35 3 v n xs) (b : Nat) (cs : List Value) (hx : a.eval x = .slice (some ⟨b, 0, none⟩) 1 1) (hc : Val3 w b 0 cs)
    (h1 : ∀ u ∈ cs, u.oneCell' = true) (hn : n < 400000000000) (hbase : base ≤ w.heap.size)
    (h : ∀ v' w', w'.ownsRow base 35 3 v' (n + 1) (xs ++ cs) → w.grownBy w' v.ownBlock → (v'.ownBlock = v.ownBlock ∨ v'.ownBlock = some w.heap.size) → wpList Try.prog ops Q rest (a.put o.dst v') w') : wpList Try.prog ops Q (o :: rest) a w := by
  obtain ⟨i0, hi, hz0, hz1, hz2⟩ := info_parts info_val
  have hnews : ∀ j u, cs[j]? = some u → w.cell? ((⟨b, 0, none⟩ : Addr).add j) = some u := by
    intro j u hj
    have hjl : j < 3 := by rw [← hc.1]; exact (List.getElem?_eq_some_iff.1 hj).1
    rw [addr_at, hc.2 j hjl, hj]
  obtain ⟨v', w', hr, h2, h3, _, h5⟩ := run_append_own_at (P := Try.prog) (w := w) base 33 o.type 35 i0 (.agg #[.int .i64 0, .int .u8 0, .slice none 0 0]) 3 40 Try.underlying33 hi hz0 hz1 hz2 rfl (by decide) v n xs hown ⟨b, 0, none⟩ 1 1 cs (by rw [hc.1]) hnews h1 (by unfold maxLen; omega) (by omega) hbase
  refine wpList_plain hgd fun _ hK => ?_
  unfold Oper.wp execOp
  simp only [ho, resolve, invoke, builtin, Sem.run_bind, Sem.run_pure, Result.andThen_ok, List.map_toArray, List.map_cons, List.map_nil, hs, hx, hr]
  exact hK _ _ (h v' w' h2 h3 h5)
theorem wp_store_val {o : Oper} {a : Act} {w : World} {K : Act → World → Prop} {Q : Exit → Act → World → Prop} (x y : Operand) (ho : o.op = .store 35 x y) (b : Nat) (cs ds : Array Value) (hx : a.eval x = .pointer (some ⟨b, 0, none⟩)) (hy : a.eval y = .agg ds)
    (hb : ValIn w b cs) (hd : ds.size = 3) (hc : cs.size = 3) (h1 : (ds.all fun x => x.oneCell') = true) (hK : ∀ w', ValIn w' b ds → Only b w w' → K (a.put o.dst undef) w') : o.wp Try.prog a w K Q :=
  wp_store_row _ _ _ ho b _ hx hy _ _ hb (by rw [hd]; exact infoVal) (by rw [hd, hc]) h1 (hK _ (setRow_heap w b _ _ _ _ hb) (only_row _ _ _))
theorem infoVal3 : (Try.prog.info? 35).map (·.size) = some 3 := infoVal
theorem results_valAnd {fn : Func} {p u : Tmp} (h : fn.results = #[.cell p 35, .tmp u]) (tmps : Array Value) (w : World) (b : Nat) (cs : Array Value) (hp : tmps.getD p undef = .pointer (some ⟨b, 0, none⟩)) (h0 : ValIn w b cs) (hc : cs.size = 3) :
    (results fn tmps).run Try.prog w = .ok (.tuple #[.agg cs, tmps.getD u undef]) w := by
  have hp' : tmps[p]?.getD undef = .pointer (some ⟨b, 0, none⟩) := by simpa [Array.getD_eq_getD_getElem?] using hp
  simp [results, h, hp', asAddr, run_loadVar_row w b _ _ cs _ _ h0 Try.underlying35 rfl (show _ = some cs.size from by rw [hc]; exact infoVal)]
/-- what a reading hands back -/
def GotPost (Wc w : World) (R : Nat) (r : Option (Vl × List Nat × List Nat)) (e : Ending) (w' : World) : Prop :=
  ∃ (k : Int) (z : Nat) (a : Option Addr) (len cap : Nat) (t : ByteArray) (s : List Nat), e = .returned (.tuple #[.agg #[.int .i64 k, .int .u8 z, .slice a len cap], .bool r.isSome]) ∧ RdB Wc w' R t s ∧ Kept R R w w' ∧
    (∀ v b2 s2, r = some (v, b2, s2) → ValOn (fromV w.heap.size) w' v [.int .i64 k, .int .u8 z, .slice a len cap] ∧ nats t = b2 ∧ s = s2)
def ReadOk (Wc : World) (R : Nat) (f : Rd) (cs : List Value) : Prop := ∀ (t : ByteArray) (s : List Nat) (w : World), Below Wc.heap.size Wc w → RdB Wc w R t s →
  Calls Try.prog 45 #[.pointer (some ⟨R, 0, none⟩), .agg cs.toArray] w (GotPost Wc w R (f (nats t) s))
end V
end Go.Proofs.Ytklmomgccmekkaa
namespace Go.Proofs.Ytklmomgccmekkaa
namespace V
set_option maxRecDepth 100000
open Go.RowKit
def choiceOf : List Nat → Nat
  | [] => 0
  | c :: _ => c
theorem nats_tail (t : ByteArray) : nats (t.extract 1 t.size) = (nats t).tail := by
  unfold nats
  rw [Lib.extract_eq, ← List.map_tail, List.drop_one, List.take_of_length_le (by rw [List.length_tail, ← Lib.size_eq]; exact Nat.le_refl _)]
theorem nats_first {t : ByteArray} (h : 0 < t.size) : ((t[0]'h).toNat : Int) = (choiceOf (nats t) : Nat) := by
  unfold nats
  have e : t.data.toList ≠ [] := fun h0 => by rw [Lib.size_eq, h0] at h; simp at h
  obtain ⟨c, r, hc⟩ := List.exists_cons_of_ne_nil e
  rw [hc]
  have : t[0]'h = c := by
    show t.data[0]'_ = c
    rw [← Array.getElem_toList]
    simp [hc]
  rw [this]; rfl
set_option maxHeartbeats 4000000 in
theorem choice_walk {Wc w : World} {R : Nat} {t : ByteArray} {s : List Nat} (h : RdB Wc w R t s) :
    Calls Try.prog 68 #[.pointer (some ⟨R, 0, none⟩)] w fun e w' => e = .returned (.int .u8 (choiceOf (nats t))) ∧ ∃ t', nats t' = (nats t).tail ∧ RdB Wc w' R t' s ∧ Kept R R w w' := by
  have hb := fun u hu => RdB.bits h u hu
  obtain ⟨a, cap, h1, h2, h3, h4, h5⟩ := id h
  obtain ⟨c0, c1, cf⟩ := rdb_cells h1
  have f0 := cf 0
  have Hb := Lib.hid hb
  have H := Lib.hid h
  have Hk := Lib.hid (fun v => Kept.of_only (g := R) (only_set w R 0 v))
  by_cases h0 : nats t = []
  · have he : (t.toList == ([] : List UInt8)) = true := by rw [eq_list_lit, h0]; rfl
    clear hb h h1 h2 h3 h4 h5 c1 cf
    go_enter Try.func68, Try.ntmps68
    go_wp2_with fail
    go_ret
    rw [h0]
    exact ⟨rfl, t, by rw [h0]; rfl, H.out, Kept.refl _ _ _⟩
  · have he : (t.toList == ([] : List UInt8)) = false := by rw [eq_list_lit]; simpa using h0
    have hs : 0 < t.size := by rw [← nats_length]; exact List.length_pos_iff.2 h0
    have hsI : (0 : Int) < t.size := by omega
    have hsI1 : (1 : Int) ≤ t.size := by omega
    clear hb h h1 h2 h3 h4 c1 cf
    go_enter Try.func68, Try.ntmps68
    go_wp2_with fail
    go_ret
    refine ⟨?_, _, nats_tail t, Hb.out _ (by rw [ByteArray.size_extract]; omega), Hk.out _⟩
    show Ending.returned (Value.int .u8 ((t[0]'hs).toNat : Int)) = _
    rw [nats_first]
set_option maxHeartbeats 4000000 in
/-- a byte of the set, or none -/
theorem letter_walk {Wc w : World} {R : Nat} {t : ByteArray} {s : List Nat} {st : BitVec 256} {n0 : Int} {cs : List Value} (hb : Below Wc.heap.size Wc w) (h : RdB Wc w R t s) (hat : K.Cr.at Wc (.mk 2 st n0 []) cs) (hg : K.goodC (.mk 2 st n0 []) = true) :
    Calls Try.prog 66 #[.pointer (some ⟨R, 0, none⟩), .agg cs.toArray] w (GotPost Wc w R (setT st (nats t) s)) := by
  obtain ⟨W2, hW2⟩ : ∃ W2, W2 = (w.alloc (.cells cs.toArray 28)).alloc (.cells #[.int .i64 0, .int .u8 0, .slice none 0 0] 35) := ⟨_, rfl⟩
  have hal : Below w.heap.size w W2 := by rw [hW2]; exact ((Below.refl _ _).alloc (Nat.le_refl _) _).alloc (by simp) _
  have hs2 : W2.heap.size = w.heap.size + 1 + 1 := by rw [hW2]; simp
  have hcb : K.CoreIn W2 w.heap.size cs.toArray := by rw [hW2]; exact (Below.heap_alloc _ _ _ (by simp)).trans (World.alloc_heap_new w _)
  have hzb : ValIn W2 (w.heap.size + 1) #[.int .i64 0, .int .u8 0, .slice none 0 0] := by rw [hW2]; have h := World.alloc_heap_new (w.alloc (.cells cs.toArray 28)) (.cells #[.int .i64 0, .int .u8 0, .slice none 0 0] 35); rw [World.size_alloc] at h; exact h
  have hlt := h.lt
  have h2 := h.later hal
  have hbW := hb.trans (hal.mono hb.size)
  obtain ⟨k1, s1, n1, a1, len1, cap1, rfl⟩ := K.at_lit hat
  cases s with
  | nil =>
    obtain ⟨a, cap, r1, r2, r3, r4, r5⟩ := id h2
    obtain ⟨c0, c1, cf⟩ := rdb_cells r1
    have Hz := Lib.hid hzb
    have H2 := Lib.hid h2
    have Hal := Lib.hid hal
    have Hs := Lib.hid (And.intro hlt hs2)
    clear h h2 hal r1 r2 r3 r4 r5 hcb hb hbW hlt hs2 hzb hat hg cf
    go_enter Try.func66, Try.ntmps66
    go_upto_region 1 with fail
    rw [← hW2]
    clear hW2
    go_wp2_with (first
      | (refine wpList_store_val rfl _ _ rfl (w.heap.size + 1) _ #[.int .i64 0, .int .u8 0, .slice none 0 0] rfl rfl Hz.out rfl rfl (by simp [Value.oneCell']) ?_; intro w5 hn5 ho5; have H5 := Lib.hid (And.intro hn5 ho5); clear hn5 ho5))
    refine bodyPost_ret (results_valAnd rfl _ _ (w.heap.size + 1) _ rfl H5.out.1 rfl) rfl ?_
    have hlt := Hs.out
    exact ⟨0, 0, none, 0, 0, t, [], rfl, H2.out.only H5.out.2 (by omega), (Kept.of_below Hal.out).only H5.out.2 (by omega), fun v b2 s2 e => by cases e⟩
  | cons b r =>
    obtain ⟨a, cap, r1, r2, r3, r4, r5⟩ := id h2
    obtain ⟨e1, hb8, hmx, pb, off, rfl, hcap, hpb, hcell⟩ := bytes_first r2
    obtain ⟨W3, hW3⟩ : ∃ W3, W3 = W2.alloc (.cells #[.int .i64 2, .int .u8 b, .slice none 0 0] 35) := ⟨_, rfl⟩
    have hal3 : Below W2.heap.size W2 W3 := by rw [hW3]; exact K.alloc_below _ _
    have hv3 : ValIn W3 W2.heap.size #[.int .i64 2, .int .u8 b, .slice none 0 0] := by rw [hW3]; exact World.alloc_heap_new W2 _
    have h3 := h2.later hal3
    obtain ⟨q0, q1, qf⟩ := rdb_cells ((hal3.block R h2.lt).trans r1)
    obtain ⟨c0, c1, cf⟩ := rdb_cells r1
    have f1 := qf 1
    have hcellW : W2.cell? ⟨pb, off, none⟩ = some (.int .u8 b) := by rw [hbW.cell (p := ⟨pb, off, none⟩) hpb]; exact hcell
    have hset : ∀ a' c', (cap = 1 ∨ a' = (⟨pb, off + 1, none⟩ : Addr)) → c' = cap - 1 → RdB Wc (W3.setCell ⟨R, 1, none⟩ (.slice (some a') r.length c')) R t r := fun a' c' h1 h2 => RdB.bytes h3 (bytes_tail r2 h1 h2) (by rw [List.length_cons] at r4; omega)
    rw [List.length_cons] at c1 q1 hcap
    have g1 : (1 : Int) ≤ ((r.length + 1 : Nat) : Int) := by omega
    have g2 : ((r.length + 1 : Nat) : Int) ≤ (cap : Int) := by omega
    have g0 : (0 : Int) < ((r.length + 1 : Nat) : Int) := by omega
    have g0' : 0 < r.length + 1 := by omega
    have ge : decide (((r.length + 1 : Nat) : Int) = 0) = false := decide_eq_false (by omega)
    have ge2 : (((r.length + 1 : Nat) : Int) == 0) = false := by simpa using (show ¬ ((r.length + 1 : Nat) : Int) = 0 by omega)
    have Hset := Lib.hid hset
    have Hz := Lib.hid (And.intro hzb (And.intro hcb hv3))
    have Hal := Lib.hid (And.intro hal hal3)
    have Hs := Lib.hid (And.intro hlt hs2)
    have Hg := Lib.hid (And.intro hat hg)
    have HbW := Lib.hid hbW
    clear h h2 h3 hal hal3 r1 r2 r3 r4 r5 hcb hb hlt hs2 hzb hat hg cf qf hset hv3 hbW hcell e1 hmx
    generalize hn : r.length + 1 = n at *
    have Hn := Lib.hid hn
    clear hn
    by_cases hcap1 : cap = 1
    · subst hcap1
      go_enter Try.func66, Try.ntmps66
      go_upto_region 1 with fail
      rw [← hW2]
      clear hW2
      go_upto_region 4 with fail
      rw [← hW3]
      clear hW3
      go_upto_region 5 with fail
      obtain ⟨W4, hW4⟩ : ∃ W4, W4 = W3.setCell ⟨R, 1, none⟩ (.slice (some ⟨pb, off, none⟩) 0 0) := ⟨_, rfl⟩
      have hr4 : RdB Wc W4 R t r := by
        have hn1 : r.length = 0 := by have := Hn.out; omega
        have h := Hset.out ⟨pb, off, none⟩ 0 (.inl rfl) rfl
        rw [hn1] at h
        rw [hW4]; exact h
      have ho4 : Only R W3 W4 := by rw [hW4]; exact only_set _ _ _ _
      rw [← hW4]
      clear hW4
      obtain ⟨hlt, hs2⟩ := Hs.out
      obtain ⟨hal, hal3⟩ := Hal.out
      have hv4 : ValIn W4 W2.heap.size #[.int .i64 2, .int .u8 b, .slice none 0 0] := (ho4.block _ (by omega)).trans Hz.out.2.2
      have hz4 : ValIn W4 (w.heap.size + 1) #[.int .i64 0, .int .u8 0, .slice none 0 0] := (ho4.block _ (by omega)).trans (val_later hal3 Hz.out.1)
      have hc4 : K.CoreIn W4 w.heap.size #[.int .i64 k1, .int .u64 (word s1 0), .int .u64 (word s1 1), .int .u64 (word s1 2), .int .u64 (word s1 3), .int .i64 n1, .slice a1 len1 cap1] := (ho4.block _ (by omega)).trans (K.core_later hal3 Hz.out.2.1)
      have hb4 : Below Wc.heap.size Wc W4 := ho4.below (HbW.out.trans (hal3.mono HbW.out.size)) hr4.choose_spec.choose_spec.2.2.1
      have hk4 : Kept R R w W4 := (Kept.of_below (hal.trans (hal3.mono hal.size))).trans (Kept.of_only ho4)
      obtain ⟨wd, hwd⟩ : ∃ wd, wd = W4.drew := ⟨_, rfl⟩
      have hbd : Below W4.heap.size W4 wd := by rw [hwd]; exact (Below.refl _ _).drew
      have hvd := val_later hbd hv4
      have hzd := val_later hbd hz4
      have hcd := K.core_later hbd hc4
      have hrd := hr4.later hbd
      have hbwd := hb4.trans (hbd.mono hb4.size)
      have hkd := hk4.trans (Kept.of_below (R := R) (g := R) hbd)
      have C0 := Lib.hid (show (fun w' => Val3 w' W2.heap.size 0 [.int .i64 2, .int .u8 b, .slice none 0 0] ∧ K.Core7 w' w.heap.size 0 [.int .i64 k1, .int .u64 (word s1 0), .int .u64 (word s1 1), .int .u64 (word s1 2), .int .u64 (word s1 3), .int .i64 n1, .slice a1 len1 cap1]) wd from ⟨val3_in hvd rfl, K.core7_in hcd rfl⟩)
      have Hd := Lib.hid (And.intro hzd (And.intro hrd (And.intro hbwd (And.intro hkd (And.intro (lt_of_block hcd) (lt_of_block hvd))))))
      have hgv : goodV (.mk 2 st n0 []) (.mk 2 b []) = st.getLsbD b := by
        unfold goodV
        rw [Hg.out.2, Bool.true_and, bel_mk, belT_else (by decide)]
        simp [formV, belK]
      have hgd := good_any (K.Cr.at_below hbwd (Nat.le_refl _) _ _ Hg.out.1) (at_plain (W := wd) (k := 2) (z := b) rfl hb8)
      rw [hgv] at hgd
      have Hgd := Lib.hid hgd
      clear hv4 hz4 hc4 hb4 hk4 hvd hzd hcd hrd hbwd hkd hbd hgd hgv ho4 hr4 hlt hs2 hal hal3 q0 c0 f1 hcellW q1 c1
      refine wp_region_hold (fun w' => Val3 w' W2.heap.size 0 [.int .i64 2, .int .u8 b, .slice none 0 0] ∧ K.Core7 w' w.heap.size 0 [.int .i64 k1, .int .u64 (word s1 0), .int .u64 (word s1 1), .int .u64 (word s1 2), .int .u64 (word s1 3), .int .i64 n1, .slice a1 len1 cap1]) (.plain 0 (.plain 1 (.plain 2 (.sole 3 (.sole 4 (.plain 5 .done)))))) (by rw [← hwd]; exact C0.out) (by kernel_rfl) (by kernel_rfl) (fun c a d v w h => by cases d <;> exact h) ?_
      rw [← hwd]
      clear hwd
      repeat (first
          | (refine' hold_want ?_ ?_ (fun J hJ => ?_)
             rotate_left 1
             · simp only [List.getElem?_toArray, List.getElem?_cons_zero, List.getElem?_cons_succ]; exact rfl
             · exact rfl
             first
             | (refine quiet_load_val _ rfl W2.heap.size 0 _ rfl (fun w' ⟨L, hL⟩ => hL ▸ L.ok.1) ?_; refine hJ _ ?_; clear hJ J; try simp only [Act.put, List.setIfInBounds_toArray, List.set_cons_zero, List.set_cons_succ])
             | (refine K.quiet_load_core _ rfl w.heap.size 0 _ rfl (fun w' ⟨L, hL⟩ => hL ▸ L.ok.2) ?_; refine hJ _ ?_; clear hJ J; try simp only [Act.put, List.setIfInBounds_toArray, List.set_cons_zero, List.set_cons_succ])))
      refine' hold_sole ?_ ?_ (fun J hJ => ?_)
      rotate_left 1
      · simp only [List.getElem?_toArray, List.getElem?_cons_zero, List.getElem?_cons_succ]; exact rfl
      · exact rfl
      go_simp
      refine (Hgd.out).mono ?_
      rintro e w5 ⟨rfl, hb5⟩
      have hC5 : Val3 w5 W2.heap.size 0 [.int .i64 2, .int .u8 b, .slice none 0 0] ∧ K.Core7 w5 w.heap.size 0 [.int .i64 k1, .int .u64 (word s1 0), .int .u64 (word s1 1), .int .u64 (word s1 2), .int .u64 (word s1 3), .int .i64 n1, .slice a1 len1 cap1] := ⟨C0.out.1.below Hd.out.2.2.2.2.2 hb5, core7_below C0.out.2 Hd.out.2.2.2.2.1 hb5⟩
      refine hJ _ _ hC5 ?_
      clear hJ J
      have HC5 := Lib.hid hC5
      have Hz5 := Lib.hid (val_later hb5 Hd.out.1)
      have Hb5 := Lib.hid hb5
      clear hC5 hb5
      try simp only [Act.put, List.setIfInBounds_toArray, List.set_cons_zero, List.set_cons_succ]
      refine' hold_sole ?_ ?_ (fun J hJ => ?_)
      rotate_left 1
      · simp only [List.getElem?_toArray, List.getElem?_cons_zero, List.getElem?_cons_succ]; exact rfl
      · exact rfl
      refine wp_store_val _ _ rfl (w.heap.size + 1) _ #[.int .i64 2, .int .u8 b, .slice none 0 0] rfl rfl Hz5.out rfl rfl (by simp [Value.oneCell']) ?_
      intro w6 hn6 ho6
      have hs2 := Hs.out.2
      refine hJ _ _ ⟨⟨rfl, fun q hq => by rw [ho6.cell (a := ⟨W2.heap.size, 0 + q, none⟩) (by show W2.heap.size ≠ w.heap.size + 1; omega)]; exact HC5.out.1.2 q hq⟩, ⟨rfl, fun q hq => by rw [ho6.cell (a := ⟨w.heap.size, 0 + q, none⟩) (by show w.heap.size ≠ w.heap.size + 1; omega)]; exact HC5.out.2.2 q hq⟩⟩ ?_
      clear hJ J
      have H6 := Lib.hid (And.intro hn6 ho6)
      clear hn6 ho6 hs2
      try simp only [Act.put]
      refine' hold_want ?_ ?_ (fun J hJ => ?_)
      rotate_left 1
      · simp only [List.getElem?_toArray, List.getElem?_cons_zero, List.getElem?_cons_succ]; exact rfl
      · exact rfl
      go_big_quiet_op
      refine hJ _ ?_
      clear hJ J
      try simp only [Act.put, List.setIfInBounds_toArray, List.set_cons_zero, List.set_cons_succ]
      refine hold_done ?_
      go_wp2_with fail
      refine bodyPost_ret (results_valAnd rfl _ _ (w.heap.size + 1) _ rfl H6.out.1 rfl) rfl ?_
      obtain ⟨hlt, hs2⟩ := Hs.out
      obtain ⟨_, hrd, _, hkd, _, _⟩ := Hd.out
      refine ⟨2, b, none, 0, 0, t, r, ?_, (hrd.later Hb5.out).only H6.out.2 (by omega), (hkd.trans (Kept.of_below Hb5.out)).only H6.out.2 (by omega), fun v b2 s2 e => ?_⟩
      · show Ending.returned (.tuple #[.agg #[.int .i64 2, .int .u8 b, .slice none 0 0], .bool (st.getLsbD b)]) = _
        unfold setT
        simp only
        cases hbit : st.getLsbD b <;> rfl
      · unfold setT at e
        simp only at e
        split at e
        · injection e with e
          injection e with e1 e
          injection e with e2 e3
          subst e1 e2 e3
          exact ⟨ValOn.plain _ _ rfl hb8, rfl, rfl⟩
        · cases e
    · go_enter Try.func66, Try.ntmps66
      go_upto_region 1 with fail
      rw [← hW2]
      clear hW2
      go_upto_region 4 with fail
      rw [← hW3]
      clear hW3
      go_upto_region 5 with fail
      obtain ⟨W4, hW4⟩ : ∃ W4, W4 = W3.setCell ⟨R, 1, none⟩ (.slice (some ⟨pb, off + 1, none⟩) (n - 1) (cap - 1)) := ⟨_, rfl⟩
      have hr4 : RdB Wc W4 R t r := by
        have hn1 : n - 1 = r.length := by have := Hn.out; omega
        have h := Hset.out ⟨pb, off + 1, none⟩ (cap - 1) (.inr rfl) rfl
        rw [← hn1] at h
        rw [hW4]; exact h
      have ho4 : Only R W3 W4 := by rw [hW4]; exact only_set _ _ _ _
      rw [← hW4]
      clear hW4
      obtain ⟨hlt, hs2⟩ := Hs.out
      obtain ⟨hal, hal3⟩ := Hal.out
      have hv4 : ValIn W4 W2.heap.size #[.int .i64 2, .int .u8 b, .slice none 0 0] := (ho4.block _ (by omega)).trans Hz.out.2.2
      have hz4 : ValIn W4 (w.heap.size + 1) #[.int .i64 0, .int .u8 0, .slice none 0 0] := (ho4.block _ (by omega)).trans (val_later hal3 Hz.out.1)
      have hc4 : K.CoreIn W4 w.heap.size #[.int .i64 k1, .int .u64 (word s1 0), .int .u64 (word s1 1), .int .u64 (word s1 2), .int .u64 (word s1 3), .int .i64 n1, .slice a1 len1 cap1] := (ho4.block _ (by omega)).trans (K.core_later hal3 Hz.out.2.1)
      have hb4 : Below Wc.heap.size Wc W4 := ho4.below (HbW.out.trans (hal3.mono HbW.out.size)) hr4.choose_spec.choose_spec.2.2.1
      have hk4 : Kept R R w W4 := (Kept.of_below (hal.trans (hal3.mono hal.size))).trans (Kept.of_only ho4)
      obtain ⟨wd, hwd⟩ : ∃ wd, wd = W4.drew := ⟨_, rfl⟩
      have hbd : Below W4.heap.size W4 wd := by rw [hwd]; exact (Below.refl _ _).drew
      have hvd := val_later hbd hv4
      have hzd := val_later hbd hz4
      have hcd := K.core_later hbd hc4
      have hrd := hr4.later hbd
      have hbwd := hb4.trans (hbd.mono hb4.size)
      have hkd := hk4.trans (Kept.of_below (R := R) (g := R) hbd)
      have C0 := Lib.hid (show (fun w' => Val3 w' W2.heap.size 0 [.int .i64 2, .int .u8 b, .slice none 0 0] ∧ K.Core7 w' w.heap.size 0 [.int .i64 k1, .int .u64 (word s1 0), .int .u64 (word s1 1), .int .u64 (word s1 2), .int .u64 (word s1 3), .int .i64 n1, .slice a1 len1 cap1]) wd from ⟨val3_in hvd rfl, K.core7_in hcd rfl⟩)
      have Hd := Lib.hid (And.intro hzd (And.intro hrd (And.intro hbwd (And.intro hkd (And.intro (lt_of_block hcd) (lt_of_block hvd))))))
      have hgv : goodV (.mk 2 st n0 []) (.mk 2 b []) = st.getLsbD b := by
        unfold goodV
        rw [Hg.out.2, Bool.true_and, bel_mk, belT_else (by decide)]
        simp [formV, belK]
      have hgd := good_any (K.Cr.at_below hbwd (Nat.le_refl _) _ _ Hg.out.1) (at_plain (W := wd) (k := 2) (z := b) rfl hb8)
      rw [hgv] at hgd
      have Hgd := Lib.hid hgd
      clear hv4 hz4 hc4 hb4 hk4 hvd hzd hcd hrd hbwd hkd hbd hgd hgv ho4 hr4 hlt hs2 hal hal3 q0 c0 f1 hcellW q1 c1
      refine wp_region_hold (fun w' => Val3 w' W2.heap.size 0 [.int .i64 2, .int .u8 b, .slice none 0 0] ∧ K.Core7 w' w.heap.size 0 [.int .i64 k1, .int .u64 (word s1 0), .int .u64 (word s1 1), .int .u64 (word s1 2), .int .u64 (word s1 3), .int .i64 n1, .slice a1 len1 cap1]) (.plain 0 (.plain 1 (.plain 2 (.sole 3 (.sole 4 (.plain 5 .done)))))) (by rw [← hwd]; exact C0.out) (by kernel_rfl) (by kernel_rfl) (fun c a d v w h => by cases d <;> exact h) ?_
      rw [← hwd]
      clear hwd
      repeat (first
          | (refine' hold_want ?_ ?_ (fun J hJ => ?_)
             rotate_left 1
             · simp only [List.getElem?_toArray, List.getElem?_cons_zero, List.getElem?_cons_succ]; exact rfl
             · exact rfl
             first
             | (refine quiet_load_val _ rfl W2.heap.size 0 _ rfl (fun w' ⟨L, hL⟩ => hL ▸ L.ok.1) ?_; refine hJ _ ?_; clear hJ J; try simp only [Act.put, List.setIfInBounds_toArray, List.set_cons_zero, List.set_cons_succ])
             | (refine K.quiet_load_core _ rfl w.heap.size 0 _ rfl (fun w' ⟨L, hL⟩ => hL ▸ L.ok.2) ?_; refine hJ _ ?_; clear hJ J; try simp only [Act.put, List.setIfInBounds_toArray, List.set_cons_zero, List.set_cons_succ])))
      refine' hold_sole ?_ ?_ (fun J hJ => ?_)
      rotate_left 1
      · simp only [List.getElem?_toArray, List.getElem?_cons_zero, List.getElem?_cons_succ]; exact rfl
      · exact rfl
      go_simp
      refine (Hgd.out).mono ?_
      rintro e w5 ⟨rfl, hb5⟩
      have hC5 : Val3 w5 W2.heap.size 0 [.int .i64 2, .int .u8 b, .slice none 0 0] ∧ K.Core7 w5 w.heap.size 0 [.int .i64 k1, .int .u64 (word s1 0), .int .u64 (word s1 1), .int .u64 (word s1 2), .int .u64 (word s1 3), .int .i64 n1, .slice a1 len1 cap1] := ⟨C0.out.1.below Hd.out.2.2.2.2.2 hb5, core7_below C0.out.2 Hd.out.2.2.2.2.1 hb5⟩
      refine hJ _ _ hC5 ?_
      clear hJ J
      have HC5 := Lib.hid hC5
      have Hz5 := Lib.hid (val_later hb5 Hd.out.1)
      have Hb5 := Lib.hid hb5
      clear hC5 hb5
      try simp only [Act.put, List.setIfInBounds_toArray, List.set_cons_zero, List.set_cons_succ]
      refine' hold_sole ?_ ?_ (fun J hJ => ?_)
      rotate_left 1
      · simp only [List.getElem?_toArray, List.getElem?_cons_zero, List.getElem?_cons_succ]; exact rfl
      · exact rfl
      refine wp_store_val _ _ rfl (w.heap.size + 1) _ #[.int .i64 2, .int .u8 b, .slice none 0 0] rfl rfl Hz5.out rfl rfl (by simp [Value.oneCell']) ?_
      intro w6 hn6 ho6
      have hs2 := Hs.out.2
      refine hJ _ _ ⟨⟨rfl, fun q hq => by rw [ho6.cell (a := ⟨W2.heap.size, 0 + q, none⟩) (by show W2.heap.size ≠ w.heap.size + 1; omega)]; exact HC5.out.1.2 q hq⟩, ⟨rfl, fun q hq => by rw [ho6.cell (a := ⟨w.heap.size, 0 + q, none⟩) (by show w.heap.size ≠ w.heap.size + 1; omega)]; exact HC5.out.2.2 q hq⟩⟩ ?_
      clear hJ J
      have H6 := Lib.hid (And.intro hn6 ho6)
      clear hn6 ho6 hs2
      try simp only [Act.put]
      refine' hold_want ?_ ?_ (fun J hJ => ?_)
      rotate_left 1
      · simp only [List.getElem?_toArray, List.getElem?_cons_zero, List.getElem?_cons_succ]; exact rfl
      · exact rfl
      go_big_quiet_op
      refine hJ _ ?_
      clear hJ J
      try simp only [Act.put, List.setIfInBounds_toArray, List.set_cons_zero, List.set_cons_succ]
      refine hold_done ?_
      go_wp2_with fail
      refine bodyPost_ret (results_valAnd rfl _ _ (w.heap.size + 1) _ rfl H6.out.1 rfl) rfl ?_
      obtain ⟨hlt, hs2⟩ := Hs.out
      obtain ⟨_, hrd, _, hkd, _, _⟩ := Hd.out
      refine ⟨2, b, none, 0, 0, t, r, ?_, (hrd.later Hb5.out).only H6.out.2 (by omega), (hkd.trans (Kept.of_below Hb5.out)).only H6.out.2 (by omega), fun v b2 s2 e => ?_⟩
      · show Ending.returned (.tuple #[.agg #[.int .i64 2, .int .u8 b, .slice none 0 0], .bool (st.getLsbD b)]) = _
        unfold setT
        simp only
        cases hbit : st.getLsbD b <;> rfl
      · unfold setT at e
        simp only at e
        split at e
        · injection e with e
          injection e with e1 e
          injection e with e2 e3
          subst e1 e2 e3
          exact ⟨ValOn.plain _ _ rfl hb8, rfl, rfl⟩
        · cases e
end V
end Go.Proofs.Ytklmomgccmekkaa
namespace Go.Proofs.Ytklmomgccmekkaa
namespace V
set_option maxRecDepth 100000
open Go.RowKit
/-- one behind the other -/
def manyT : List Rd → List Nat → List Nat → Option (List Vl × List Nat × List Nat)
  | [], bs, s => some ([], bs, s)
  | f :: fs, bs, s => match f bs s with
    | none => none
    | some (x, b1, s1) => match manyT fs b1 s1 with
      | none => none
      | some (l, b2, s2) => some (x :: l, b2, s2)
def rowT (k : Int) (fs : List Rd) : Rd := fun bs s => match manyT fs bs s with
  | none => none
  | some (l, b1, s1) => some (.mk k 0 l, b1, s1)
theorem row_one (k : Int) (f : Rd) (bs s : List Nat) : rowT k [f] bs s = oneT f k bs s := by
  unfold rowT oneT manyT manyT
  cases f bs s with
  | none => rfl
  | some q => rfl
theorem row_two (f g : Rd) (bs s : List Nat) : rowT 3 [f, g] bs s = twoT f g bs s := by
  unfold rowT twoT manyT manyT manyT
  cases f bs s with
  | none => rfl
  | some q =>
    obtain ⟨x, b1, s1⟩ := q
    simp only
    cases g b1 s1 with
    | none => rfl
    | some q => rfl
def behind (acc : List Vl) (r : Option (List Vl × List Nat × List Nat)) : Option (List Vl × List Nat × List Nat) := match r with
  | none => none
  | some (l, b1, s1) => some (acc ++ l, b1, s1)
theorem behind_nil (r : Option (List Vl × List Nat × List Nat)) : behind [] r = r := by
  cases r with
  | none => rfl
  | some q => rfl
theorem behind_some {acc : List Vl} {f : Rd} {fs : List Rd} {bs s b1 s1 : List Nat} {x : Vl} (h : f bs s = some (x, b1, s1)) : behind acc (manyT (f :: fs) bs s) = behind (acc ++ [x]) (manyT fs b1 s1) := by
  rw [manyT, h]
  simp only
  cases manyT fs b1 s1 with
  | none => rfl
  | some q => simp [behind]
theorem behind_none {acc : List Vl} {f : Rd} {fs : List Rd} {bs s : List Nat} (h : f bs s = none) : behind acc (manyT (f :: fs) bs s) = none := by
  rw [manyT, h]; rfl
set_option maxHeartbeats 8000000 in
theorem elements_walk {Wc w : World} {R : Nat} (k : Int) (hk : fits64 k) (L : List K.Cr) (hL : ∀ y ∈ L, ∀ cs, K.Cr.at Wc y cs → ReadOk Wc R (got y) cs) (a : Option Addr) (cap : Nat) (hmax : L.length ≤ 100)
    (hl : L.length = 0 ∨ ∃ b off, a = some ⟨b, off, none⟩ ∧ L.length ≤ cap ∧ b < Wc.heap.size ∧ K.coresAt Wc L b off) {t : ByteArray} {s : List Nat} (hb : Below Wc.heap.size Wc w) (h : RdB Wc w R t s) :
    Calls Try.prog 67 #[.pointer (some ⟨R, 0, none⟩), .int .i64 k, .slice a L.length cap] w (GotPost Wc w R (rowT k (L.map got) (nats t) s)) := by
  obtain ⟨W2, hW2⟩ : ∃ W2, W2 = (w.alloc (.cells #[.int .i64 0, .int .u8 0, .slice none 0 0] 35)).alloc (.cells #[.int .i64 k, .int .u8 0, .slice none 0 0] 35) := ⟨_, rfl⟩
  have hal : Below w.heap.size w W2 := by rw [hW2]; exact ((Below.refl _ _).alloc (Nat.le_refl _) _).alloc (by simp) _
  have hs2 : W2.heap.size = w.heap.size + 1 + 1 := by rw [hW2]; simp
  have hzb : ValIn W2 w.heap.size #[.int .i64 0, .int .u8 0, .slice none 0 0] := by rw [hW2]; exact (Below.heap_alloc _ _ _ (by simp)).trans (World.alloc_heap_new w _)
  have hgb : ValIn W2 (w.heap.size + 1) #[.int .i64 k, .int .u8 0, .slice none 0 0] := by rw [hW2]; have h := World.alloc_heap_new (w.alloc (.cells #[.int .i64 0, .int .u8 0, .slice none 0 0] 35)) (.cells #[.int .i64 k, .int .u8 0, .slice none 0 0] 35); rw [World.size_alloc] at h; exact h
  have hlt := h.lt
  have hRc : Wc.heap.size ≤ R := h.choose_spec.choose_spec.2.2.1
  obtain ⟨n, hn⟩ : ∃ n, n = L.length := ⟨_, rfl⟩
  rw [← hn]
  have hg0 := Grow.start (R := R) hgb
  obtain ⟨r, hr⟩ : ∃ r, r = rowT k (L.map got) (nats t) s := ⟨_, rfl⟩
  rw [← hr]
  have HN := Lib.hid hn
  have Hk := Lib.hid hk
  have HL := Lib.hid hL
  have Hl := Lib.hid hl
  have Hr := Lib.hid hr
  have H0 := Lib.hid (And.intro hg0 (h.later hal))
  have Hz := Lib.hid hzb
  have Hal := Lib.hid hal
  have Hb := Lib.hid (hb.trans (hal.mono hb.size))
  have Hs := Lib.hid (And.intro hlt (And.intro hs2 hRc))
  have hnI : (n : Int) ≤ 9223372036854775807 := by omega
  have hmax : n ≤ 100 := by omega
  clear hn hk hL hl hr hg0 h hzb hgb hal hb hlt hs2 hRc
  go_enter Try.func67, Try.ntmps67
  go_upto_region 2 with fail
  rw [← hW2]
  clear hW2
  go_wp2_with fail
  go_loopw [17] (fun i wr => ∃ (j : Nat) (v : Value) (acc : List (Vl × List Value)) (t1 : ByteArray) (s1 : List Nat), i = .int .i64 j ∧ j ≤ n ∧ Hid (acc.length = j) ∧ Hid (manyT (L.map got) (nats t) s = behind (acc.map (·.1)) (manyT ((L.drop j).map got) (nats t1) s1)) ∧ Hid (Grow W2 R (w.heap.size + 1) k v acc wr) ∧ Hid (RdB Wc wr R t1 s1)) (fun i _ => n - (intOf i).toNat)
  case atStart => exact ⟨0, _, [], t, s, rfl, Nat.zero_le _, Lib.hid rfl, Lib.hid (by rw [List.drop_zero]; exact (behind_nil _).symm), Lib.hid H0.out.1, Lib.hid H0.out.2⟩
  case round =>
    obtain ⟨j, v, acc, t1, s1, rfl, hj, hacc, hmany, hG, hR⟩ := hrel
    have hbr : Below Wc.heap.size Wc wr := by have := Hs.out; exact hG.out.2.2.2.below Hb.out (by omega) (by have := Hb.out.size; omega) Hb.out.size
    obtain ⟨av, capv, hv⟩ := hG.out.slice
    rw [hacc.out] at hv
    subst hv
    have Hbr := Lib.hid hbr
    by_cases hjn : j < n
    · have hd : decide ((j : Int) < n) = true := by simp; omega
      have hjL : j < L.length := by have := HN.out; omega
      obtain ⟨bn, off, rfl, hcap, hbn, hnodes⟩ := Hl.out.resolve_left (by omega)
      obtain ⟨cs, hc7, hcell, hat⟩ := K.nodes_get Wc bn L off hnodes j hjL
      have h9 : K.Core7 wr bn (off + j * 7) cs := core7_below ⟨hc7, hcell⟩ hbn hbr
      have hread := HL.out _ (List.getElem_mem hjL) cs hat
      obtain ⟨kq, sq, nq, aq, lenq, capq, rfl⟩ := K.at_lit hat
      have hdrop : (L.drop j).map got = got L[j] :: (L.drop (j + 1)).map got := by rw [List.drop_eq_getElem_cons hjL, List.map_cons]
      have hm2 := hmany.out
      rw [hdrop] at hm2
      obtain ⟨w1, hw1⟩ : ∃ w1, w1 = wr.alloc (.cells #[.int .i64 kq, .int .u64 (word sq 0), .int .u64 (word sq 1), .int .u64 (word sq 2), .int .u64 (word sq 3), .int .i64 nq, .slice aq lenq capq] 28) := ⟨_, rfl⟩
      have hal1 : Below wr.heap.size wr w1 := by rw [hw1]; exact K.alloc_below _ _
      have h91 : K.Core7 w1 wr.heap.size 0 [.int .i64 kq, .int .u64 (word sq 0), .int .u64 (word sq 1), .int .u64 (word sq 2), .int .u64 (word sq 3), .int .i64 nq, .slice aq lenq capq] := by rw [hw1]; exact K.core7_in (World.alloc_heap_new wr _) rfl
      have hcall := hread t1 s1 w1 (hbr.trans (hal1.mono hbr.size)) (hR.out.later hal1)
      generalize got L[j] = f at hcall hm2
      have H9 := Lib.hid (And.intro h9 h91)
      have Hal1 := Lib.hid hal1
      have Hm2 := Lib.hid hm2
      have HjL := Lib.hid hjL
      have hs2 := Hs.out
      have Hgw1 := Lib.hid (hG.out.later hal1 (by omega) (by omega))
      clear hnodes hcell hat hread hc7 h9 h91 hdrop hm2 hal1 hbn hcap hs2 hbr hmany hG hR
      go_upto_region 5 with (first | (refine K.wpList_load_core rfl _ rfl bn (off + j * 7) _ rfl H9.out.1 ?_))
      rw [← hw1]
      clear hw1
      go_wp2_with (first
        | (refine K.wpList_load_core rfl _ rfl wr.heap.size 0 _ rfl H9.out.2 ?_)
        | fail)
      cases hf : f (nats t1) s1 with
      | none =>
        rw [hf] at hcall
        refine hcall.mono ?_
        clear hcall
        rintro e w3 ⟨kx, zx, ax, lenx, capx, t3, s3, rfl, hr3, hk3, _⟩
        obtain ⟨hlt, hs2, hRc⟩ := Hs.out
        have hG3 := Hgw1.out.call hk3 (by omega) (by omega)
        have hz3 : ValIn w3 w.heap.size #[.int .i64 0, .int .u8 0, .slice none 0 0] := hG3.2.2.2.val Hz.out (by omega) (by omega)
        have hz4 : ∀ o, ValIn (w3.alloc o) w.heap.size #[.int .i64 0, .int .u8 0, .slice none 0 0] := fun o => val_later (K.alloc_below w3 o) hz3
        have hrn : r = none := by rw [Hr.out]; unfold rowT; rw [Hm2.out, behind_none hf]
        have Hz4 := Lib.hid hz4
        have Hend := Lib.hid (And.intro hr3 (And.intro ((Kept.of_below (R := R) (g := R) Hal.out).less hG3.2.2.2 (by omega)) hrn))
        clear hr3 hk3 hG3 hz3 hz4 hf hrn hlt hs2 hRc
        go_wp2_with (first
          | (refine wpList_store_val rfl _ _ rfl w.heap.size _ #[.int .i64 0, .int .u8 0, .slice none 0 0] rfl rfl (Hz4.out _) rfl rfl (by simp [Value.oneCell']) ?_; intro w5 hn5 ho5; have H5 := Lib.hid (And.intro hn5 ho5); clear hn5 ho5)
          | fail)
        refine bodyPost_ret (results_valAnd rfl _ _ w.heap.size _ rfl H5.out.1 rfl) rfl ?_
        obtain ⟨hr3, hk3, hrn⟩ := Hend.out
        obtain ⟨hlt, hs2, hRc⟩ := Hs.out
        rw [hrn]
        exact ⟨0, 0, none, 0, 0, t3, s3, rfl, (hr3.alloc _).only H5.out.2 (by omega), (hk3.trans (Kept.of_below (K.alloc_below w3 _))).only H5.out.2 (by omega), fun v b2 s2 e => by cases e⟩
      | some q =>
        obtain ⟨xv, b1, s2⟩ := q
        rw [hf] at hcall
        refine hcall.mono ?_
        clear hcall
        rintro e w3 ⟨kx, zx, ax, lenx, capx, t3, s3, rfl, hr3, hk3, hq⟩
        obtain ⟨hx, rfl, rfl⟩ := hq _ _ _ rfl
        obtain ⟨hlt, hs2, hRc⟩ := Hs.out
        have hG3 := Hgw1.out.call hk3 (by omega) (by omega)
        obtain ⟨w4, hw4⟩ : ∃ w4, w4 = w3.alloc (.cells #[.int .i64 kx, .int .u8 zx, .slice ax lenx capx] 35) := ⟨_, rfl⟩
        have hal4 : Below w3.heap.size w3 w4 := by rw [hw4]; exact K.alloc_below _ _
        have hx4 : ValIn w4 w3.heap.size #[.int .i64 kx, .int .u8 zx, .slice ax lenx capx] := by rw [hw4]; exact World.alloc_heap_new w3 _
        have hG4 := hG3.later hal4 (by omega) (by omega)
        have hr4 := hr3.later hal4
        have hxv := hx.below hal4
        have hm3 := Hm2.out
        rw [behind_some hf] at hm3
        have hs34 : w4.heap.size = w3.heap.size + 1 := by rw [hw4]; simp
        have hcg : w4.cell? ⟨w.heap.size + 1, 2, none⟩ = some (.slice av j capv) := by rw [cells_at hG4.2.1]; rfl
        have H4 := Lib.hid (And.intro hG4 (And.intro hr4 (And.intro hxv (And.intro hm3 (And.intro hk3.size hs34)))))
        have Hx4 := Lib.hid (val3_in (cs := [.int .i64 kx, .int .u8 zx, .slice ax lenx capx]) hx4 rfl)
        have Hown4 := Lib.hid (show (w4.alloc (.cells #[.int .i64 kx, .int .u8 zx, .slice ax lenx capx] 35)).ownsRow W2.heap.size 35 3 (.slice av j capv) j (acc.flatMap (·.2)) from by have h := (hG4.later (K.alloc_below w4 (.cells #[.int .i64 kx, .int .u8 zx, .slice ax lenx capx] 35)) (by omega) (by omega)).2.2.1; rw [hacc.out] at h; exact h)
        have Hx5 := Lib.hid (val3_in (w := w4.alloc (.cells #[.int .i64 kx, .int .u8 zx, .slice ax lenx capx] 35)) (b := w4.heap.size) (cs := [.int .i64 kx, .int .u8 zx, .slice ax lenx capx]) (World.alloc_heap_new w4 _) rfl)
        have Hsz := Lib.hid (show W2.heap.size ≤ w4.heap.size + 1 by have := hG4.2.2.2.size; omega)
        clear hx hr3 hk3 hq hG3 hal4 hx4 hG4 hr4 hxv hm3 hs34 hf hlt hs2 hRc
        go_upto_region 6 with fail
        rw [← hw4]
        clear hw4
        go_wp2_with (first
          | (refine wpList_load_val rfl _ rfl w3.heap.size 0 _ rfl Hx4.out ?_)
          | (at_builtin; refine wpList_append_val rfl _ _ rfl W2.heap.size (.slice av j capv) j (acc.flatMap (·.2)) rfl Hown4.out w4.heap.size [.int .i64 kx, .int .u8 zx, .slice ax lenx capx] rfl Hx5.out (by simp [Value.oneCell']) (by omega) (by rw [World.size_alloc]; exact Hsz.out) ?_; intro v' w5 hown5 hgr5 hf5; refine Hid.out ?_)
          | fail)
        refine Lib.hid ?_
        obtain ⟨hlt, hs2, hRc⟩ := Hs.out
        have hG6 := H4.out.1.later (K.alloc_below w4 (.cells #[.int .i64 kx, .int .u8 zx, .slice ax lenx capx] 35)) (by omega) (by omega)
        have hv6 : ∀ q, (Value.slice av j capv).ownBlock = some q → q < w1.heap.size := fun q e => (Hgw1.out.2.2.1.lt q e).2
        have hbx5 : ValIn w5 (w.heap.size + 1) #[.int .i64 k, .int .u8 0, .slice av j capv] := (hgr5.block _ (by have := H4.out.1.2.2.2.size; simp; omega) (fun e => by have := (H4.out.1.2.2.1.lt _ e.symm).1; omega)).trans hG6.2.1
        have hr5 : RdB Wc w5 R t3 s3 := (H4.out.2.1.alloc _).same (hgr5.block R (by have := H4.out.1.2.2.2.size; simp; omega) (fun e => by have := (H4.out.1.2.2.1.lt _ e.symm).1; omega))
        have hcx : w5.cell? ⟨w.heap.size + 1, 2, none⟩ = some (.slice av j capv) := by rw [cells_at hbx5]; rfl
        have hfx := val_zero_free hbx5 2
        have hmore := Grow.more hG6 (by omega) Hgw1.out.2.2.2.size (H4.out.2.2.1.below (K.alloc_below w4 (.cells #[.int .i64 kx, .int .u8 zx, .slice ax lenx capx] 35))) hv6 (by rw [hacc.out]; exact hown5) hgr5 hf5
        have hr6 := fun v => hr5.only (only_set w5 (w.heap.size + 1) 2 v) (by omega)
        obtain ⟨a', cap', rfl⟩ := owns_form hown5
        have Hmore := Lib.hid hmore
        have Hr6 := Lib.hid hr6
        clear hlt hs2 hRc hG6 hv6 hbx5 hr5 hmore hr6 hown5 hgr5 hf5
        go_wp2_with fail
        go_roundw
        case rel => exact ⟨j + 1, _, acc ++ [(xv, [.int .i64 kx, .int .u8 zx, .slice ax lenx capx])], t3, s3, by go_num, by omega, Lib.hid (by rw [List.length_append, hacc.out]; rfl), Lib.hid (by rw [List.map_append]; exact H4.out.2.2.2.1), Lib.hid Hmore.out, Lib.hid (Hr6.out _)⟩
        case measure => simp [intOf]; omega
    · have hd : decide ((j : Int) < n) = false := by simp; omega
      obtain rfl : j = n := by omega
      have hbx := hG.out.2.1
      have Hbx := Lib.hid (val3_in (cs := [.int .i64 k, .int .u8 0, .slice av j capv]) hbx rfl)
      obtain ⟨hlt, hs2, hRc⟩ := Hs.out
      have Hzr : Hid (ValIn wr w.heap.size #[.int .i64 0, .int .u8 0, .slice none 0 0]) := Lib.hid (hG.out.2.2.2.val Hz.out (by omega) (by omega))
      have hrs : r = some (.mk k 0 (acc.map (·.1)), nats t1, s1) := by
        rw [Hr.out]; unfold rowT
        rw [hmany.out, List.drop_of_length_le (by have := HN.out; omega)]
        simp [manyT, behind]
      have Hrs := Lib.hid hrs
      clear hbx hlt hs2 hRc hrs
      go_wp2_with (first
        | (refine wpList_load_val rfl _ rfl (w.heap.size + 1) 0 _ rfl Hbx.out ?_)
        | (refine wpList_store_val rfl _ _ rfl w.heap.size _ #[.int .i64 k, .int .u8 0, .slice av j capv] rfl rfl Hzr.out rfl rfl (by simp [Value.oneCell']) ?_; intro w5 hn5 ho5; have H5 := Lib.hid (And.intro hn5 ho5); clear hn5 ho5)
        | fail)
      refine bodyPost_ret (results_valAnd rfl _ _ w.heap.size _ rfl H5.out.1 rfl) rfl ?_
      obtain ⟨hlt, hs2, hRc⟩ := Hs.out
      rw [Hrs.out]
      refine ⟨k, 0, av, j, capv, t1, s1, rfl, hR.out.only H5.out.2 (by omega), ((Kept.of_below (R := R) (g := R) Hal.out).less hG.out.2.2.2 (by omega)).only H5.out.2 (by omega), fun v b2 s2 e => ?_⟩
      injection e with e
      injection e with e1 e
      injection e with e2 e3
      subst e1 e2 e3
      refine ⟨(hG.out.made Hk.out (by rw [hacc.out]; unfold maxLen; omega)).mono (Nat.le_of_eq H5.out.2.size.symm) fun q hq _ => ?_, rfl, rfl⟩
      have hq := of_decide_eq_true hq
      exact ⟨decide_eq_true (by omega), H5.out.2.block q (by omega)⟩
end V
end Go.Proofs.Ytklmomgccmekkaa
namespace Go.Proofs.Ytklmomgccmekkaa
namespace V
set_option maxRecDepth 100000
open Go.RowKit
set_option maxHeartbeats 8000000 in
theorem star_walk {Wc w : World} {R : Nat} {f : Rd} (hf : ∀ bs s x b1 s1, f bs s = some (x, b1, s1) → b1.length ≤ bs.length ∧ s1.length ≤ s.length) (cs : List Value) (hc7 : ∃ c, K.Cr.at Wc c cs) (hread : ReadOk Wc R f cs) {t : ByteArray} {s : List Nat} (hb : Below Wc.heap.size Wc w) (h : RdB Wc w R t s) :
    Calls Try.prog 69 #[.pointer (some ⟨R, 0, none⟩), .agg cs.toArray] w (GotPost Wc w R (starT f ((nats t).length + 1) [] (nats t) s)) := by
  obtain ⟨W2, hW2⟩ : ∃ W2, W2 = ((w.alloc (.cells cs.toArray 28)).alloc (.cells #[.int .i64 0, .int .u8 0, .slice none 0 0] 35)).alloc (.cells #[.int .i64 6, .int .u8 0, .slice none 0 0] 35) := ⟨_, rfl⟩
  have hal : Below w.heap.size w W2 := by rw [hW2]; exact (((Below.refl _ _).alloc (Nat.le_refl _) _).alloc (by simp) _).alloc (by simp; omega) _
  have hs2 : W2.heap.size = w.heap.size + 1 + 1 + 1 := by rw [hW2]; simp
  have hcb : K.CoreIn W2 w.heap.size cs.toArray := by rw [hW2]; exact (Below.heap_alloc _ _ _ (by simp; omega)).trans ((Below.heap_alloc _ _ _ (by simp)).trans (World.alloc_heap_new w _))
  have hzb : ValIn W2 (w.heap.size + 1) #[.int .i64 0, .int .u8 0, .slice none 0 0] := by rw [hW2]; have h := World.alloc_heap_new (w.alloc (.cells cs.toArray 28)) (.cells #[.int .i64 0, .int .u8 0, .slice none 0 0] 35); rw [World.size_alloc] at h; exact (Below.heap_alloc _ _ _ (by simp)).trans h
  have hgb : ValIn W2 (w.heap.size + 2) #[.int .i64 6, .int .u8 0, .slice none 0 0] := by
    rw [hW2]; have h := World.alloc_heap_new ((w.alloc (.cells cs.toArray 28)).alloc (.cells #[.int .i64 0, .int .u8 0, .slice none 0 0] 35)) (.cells #[.int .i64 6, .int .u8 0, .slice none 0 0] 35); rw [World.size_alloc, World.size_alloc] at h; exact h
  have hlt := h.lt
  have hRc : Wc.heap.size ≤ R := h.choose_spec.choose_spec.2.2.1
  have hs256 : s.length ≤ 256 := h.choose_spec.choose_spec.2.2.2.1
  have hg0 := Grow.start (R := R) hgb
  obtain ⟨r, hr⟩ : ∃ r, r = starT f ((nats t).length + 1) [] (nats t) s := ⟨_, rfl⟩
  rw [← hr]
  obtain ⟨c, hat⟩ := hc7
  obtain ⟨kc, sc, nc, ac, lenc, capc, rfl⟩ := K.at_lit hat
  have Hf := Lib.hid hf
  have Hread := Lib.hid hread
  have Hr := Lib.hid hr
  have H0 := Lib.hid (And.intro hg0 (h.later hal))
  have Hz := Lib.hid (And.intro hzb hcb)
  have Hal := Lib.hid hal
  have Hb := Lib.hid (hb.trans (hal.mono hb.size))
  have Hs := Lib.hid (And.intro hlt (And.intro hs2 hRc))
  have H256 := Lib.hid hs256
  clear hf hread hr hg0 h hzb hgb hcb hal hb hlt hs2 hRc hat hs256
  go_enter Try.func69, Try.ntmps69
  go_upto_region 2 with fail
  rw [← hW2]
  clear hW2
  go_loopg [12] ((nats t).length + 1) (fun k u12 wr => ∃ (u : Value) (v : Value) (acc : List (Vl × List Value)) (t1 : ByteArray) (s1 : List Nat), u = u12 ∧ Hid ((nats t1).length < k) ∧ Hid (acc.length + s1.length ≤ s.length) ∧ Hid (r = starT f k (acc.map (·.1)) (nats t1) s1) ∧ Hid (Grow W2 R (w.heap.size + 2) 6 v acc wr) ∧ Hid (RdB Wc wr R t1 s1))
  case atStart => exact ⟨_, _, [], t, s, rfl, Lib.hid (Nat.lt_succ_self _), Lib.hid (by simp), Hr, Lib.hid H0.out.1, Lib.hid H0.out.2⟩
  case round =>
    obtain ⟨u, v, acc, t1, s1, hu, hk, hlen, hst, hG, hR⟩ := hrel
    subst hu
    cases gk with
    | zero => exact absurd hk.out (by omega)
    | succ k =>
    obtain ⟨av, capv, hv⟩ := hG.out.slice
    obtain ⟨n, hn⟩ : ∃ n, n = acc.length := ⟨_, rfl⟩
    rw [← hn] at hv
    subst hv
    have HN := Lib.hid hn
    have hn256 : n ≤ 256 := by have := hlen.out; have := H256.out; omega
    clear hn
    have hch := choice_walk hR.out
    have Hch := Lib.hid hch
    clear hch
    go_wp2_with fail
    cases hbs : nats t1 with
    | nil =>
      have hch := Hch.out
      rw [hbs] at hch
      refine hch.mono ?_
      clear hch Hch
      rintro e wx ⟨rfl, t2, ht2, hr2, hk2⟩
      obtain ⟨hlt, hs2, hRc⟩ := Hs.out
      have hGx := hG.out.call hk2 (by omega) (by omega)
      have Hx := Lib.hid (And.intro hGx (And.intro hr2 ht2))
      have Hzx : Hid (ValIn wx (w.heap.size + 1) #[.int .i64 0, .int .u8 0, .slice none 0 0]) := Lib.hid (hGx.2.2.2.val Hz.out.1 (by omega) (by omega))
      have Hrn := Lib.hid (show r = none by rw [hst.out, hbs, starT])
      clear ht2 hr2 hk2 hGx hlt hs2 hRc
      go_wp2_with (first
        | (refine wpList_store_val rfl _ _ rfl (w.heap.size + 1) _ #[.int .i64 0, .int .u8 0, .slice none 0 0] rfl rfl Hzx.out rfl rfl (by simp [Value.oneCell']) ?_; intro w5 hn5 ho5; have H5 := Lib.hid (And.intro hn5 ho5); clear hn5 ho5)
        | fail)
      refine bodyPost_ret (results_valAnd rfl _ _ (w.heap.size + 1) _ rfl H5.out.1 rfl) rfl ?_
      obtain ⟨hlt, hs2, hRc⟩ := Hs.out
      rw [Hrn.out]
      exact ⟨0, 0, none, 0, 0, t2, s1, rfl, Hx.out.2.1.only H5.out.2 (by omega), ((Kept.of_below (R := R) (g := R) Hal.out).less Hx.out.1.2.2.2 (by omega)).only H5.out.2 (by omega), fun v b2 s2 e => by cases e⟩
    | cons c bs =>
      have hch := Hch.out
      rw [hbs] at hch
      by_cases h48 : c = 48
      · subst h48
        refine hch.mono ?_
        clear hch Hch
        rintro e wx ⟨rfl, t2, ht2, hr2, hk2⟩
        obtain ⟨hlt, hs2, hRc⟩ := Hs.out
        have hGx := hG.out.call hk2 (by omega) (by omega)
        have hbx : Below Wc.heap.size Wc wx := hGx.2.2.2.below Hb.out (by omega) (by have := Hb.out.size; omega) Hb.out.size
        have hcx : K.Core7 wx w.heap.size 0 [.int .i64 kc, .int .u64 (word sc 0), .int .u64 (word sc 1), .int .u64 (word sc 2), .int .u64 (word sc 3), .int .i64 nc, .slice ac lenc capc] := K.core7_in (hGx.2.2.2.core Hz.out.2 (by omega) (by omega)) rfl
        have ht2' : nats t2 = bs := by rw [ht2]; rfl
        have hcall := Hread.out t2 s1 wx hbx hr2
        rw [ht2'] at hcall
        obtain ⟨ab, capb, r1, _⟩ := id hr2
        obtain ⟨_, q1, _⟩ := rdb_cells r1
        have hstk := hst.out
        rw [hbs, starT, if_pos rfl] at hstk
        obtain ⟨ln, hln⟩ : ∃ ln, ln = s1.length := ⟨_, rfl⟩
        rw [← hln] at q1
        have HLn := Lib.hid hln
        have Hcx := Lib.hid hcx
        have Hk := Lib.hid (show (nats t2).length < k by have := hk.out; rw [hbs, List.length_cons] at this; rw [ht2']; omega)
        have Ht2 := Lib.hid ht2'
        cases hfr : f bs s1 with
        | none =>
          rw [hfr] at hcall hstk
          have Hrn := Lib.hid (show r = none from hstk)
          have Hcall := Lib.hid hcall
          have HGx := Lib.hid hGx
          clear hcall hbx hcx ht2 ht2' hr2 hk2 hstk hln hGx hlt hs2 hRc r1 hfr
          go_wp2_with (first
            | (refine K.wpList_load_core rfl _ rfl w.heap.size 0 _ rfl Hcx.out ?_)
            | fail)
          refine Hcall.out.mono ?_
          clear Hcall
          rintro e w3 ⟨kx, zx, ax, lenx, capx, t3, s3, rfl, hr3, hk3, _⟩
          obtain ⟨hlt, hs2, hRc⟩ := Hs.out
          have hG3 := HGx.out.call hk3 (by omega) (by omega)
          obtain ⟨w4, hw4⟩ : ∃ w4, w4 = w3.alloc (.cells #[.int .i64 kx, .int .u8 zx, .slice ax lenx capx] 35) := ⟨_, rfl⟩
          have hal4 : Below w3.heap.size w3 w4 := by rw [hw4]; exact K.alloc_below _ _
          have hx4 : ValIn w4 w3.heap.size #[.int .i64 kx, .int .u8 zx, .slice ax lenx capx] := by rw [hw4]; exact World.alloc_heap_new w3 _
          have hG4 := hG3.later hal4 (by omega) (by omega)
          have Hx4 := Lib.hid (val3_in (cs := [.int .i64 kx, .int .u8 zx, .slice ax lenx capx]) hx4 rfl)
          have Hz4 : Hid (ValIn w4 (w.heap.size + 1) #[.int .i64 0, .int .u8 0, .slice none 0 0]) := Lib.hid (hG4.2.2.2.val Hz.out.1 (by omega) (by omega))
          have Hend := Lib.hid (And.intro (hr3.later hal4) ((Kept.of_below (R := R) (g := R) Hal.out).less hG4.2.2.2 (by omega)))
          clear hr3 hk3 hG3 hal4 hx4 hG4 hlt hs2 hRc
          go_upto_region 7 with fail
          rw [← hw4]
          clear hw4
          go_wp2_with (first
            | (refine wpList_load_val rfl _ rfl w3.heap.size 0 _ rfl Hx4.out ?_)
            | (refine wpList_store_val rfl _ _ rfl (w.heap.size + 1) _ #[.int .i64 0, .int .u8 0, .slice none 0 0] rfl rfl Hz4.out rfl rfl (by simp [Value.oneCell']) ?_; intro w5 hn5 ho5; have H5 := Lib.hid (And.intro hn5 ho5); clear hn5 ho5)
            | fail)
          refine bodyPost_ret (results_valAnd rfl _ _ (w.heap.size + 1) _ rfl H5.out.1 rfl) rfl ?_
          obtain ⟨hlt, hs2, hRc⟩ := Hs.out
          rw [Hrn.out]
          exact ⟨0, 0, none, 0, 0, t3, s3, rfl, Hend.out.1.only H5.out.2 (by omega), Hend.out.2.only H5.out.2 (by omega), fun v b2 s2 e => by cases e⟩
        | some q =>
          obtain ⟨xv, b1, s2⟩ := q
          rw [hfr] at hcall hstk
          replace hstk : r = if s2.length = s1.length then none else starT f k (acc.map (·.1) ++ [xv]) b1 s2 := hstk
          have hfl := Hf.out _ _ _ _ _ hfr
          have Hfl := Lib.hid hfl
          have Hcall := Lib.hid hcall
          have HGx := Lib.hid hGx
          have Hstk := Lib.hid hstk
          clear hcall hbx hcx ht2 ht2' hr2 hk2 hstk hln hGx hlt hs2 hRc r1 hfr hfl
          go_wp2_with (first
            | (refine K.wpList_load_core rfl _ rfl w.heap.size 0 _ rfl Hcx.out ?_)
            | fail)
          refine Hcall.out.mono ?_
          clear Hcall
          rintro e w3 ⟨kx, zx, ax, lenx, capx, t3, s3, rfl, hr3, hk3, hq⟩
          obtain ⟨hx, rfl, rfl⟩ := hq _ _ _ rfl
          obtain ⟨hlt, hs2, hRc⟩ := Hs.out
          have hG3 := HGx.out.call hk3 (by omega) (by omega)
          obtain ⟨w4, hw4⟩ : ∃ w4, w4 = w3.alloc (.cells #[.int .i64 kx, .int .u8 zx, .slice ax lenx capx] 35) := ⟨_, rfl⟩
          have hal4 : Below w3.heap.size w3 w4 := by rw [hw4]; exact K.alloc_below _ _
          have hx4 : ValIn w4 w3.heap.size #[.int .i64 kx, .int .u8 zx, .slice ax lenx capx] := by rw [hw4]; exact World.alloc_heap_new w3 _
          have hG4 := hG3.later hal4 (by omega) (by omega)
          have hr4 := hr3.later hal4
          have hxv := hx.below hal4
          obtain ⟨ab4, capb4, r41, _⟩ := id hr4
          obtain ⟨_, q41, _⟩ := rdb_cells r41
          obtain ⟨l3, hl3⟩ : ∃ l3, l3 = s3.length := ⟨_, rfl⟩
          rw [← hl3] at q41
          have HL3 := Lib.hid hl3
          have Hx4 := Lib.hid (val3_in (cs := [.int .i64 kx, .int .u8 zx, .slice ax lenx capx]) hx4 rfl)
          by_cases hsame : l3 = ln
          · have hd : ((l3 : Int) == (ln : Int)) = true := by simp [hsame]
            have Hrn := Lib.hid (show r = none by rw [Hstk.out, if_pos (by have := HLn.out; omega)])
            have Hz4 : Hid (ValIn w4 (w.heap.size + 1) #[.int .i64 0, .int .u8 0, .slice none 0 0]) := Lib.hid (hG4.2.2.2.val Hz.out.1 (by omega) (by omega))
            have Hend := Lib.hid (And.intro hr4 ((Kept.of_below (R := R) (g := R) Hal.out).less hG4.2.2.2 (by omega)))
            clear hr3 hk3 hG3 hal4 hx4 hG4 hlt hs2 hRc hr4 hxv r41 hl3 hq hx hsame q1
            go_upto_region 7 with fail
            rw [← hw4]
            clear hw4
            go_wp2_with (first
              | (refine wpList_load_val rfl _ rfl w3.heap.size 0 _ rfl Hx4.out ?_)
              | (refine wpList_store_val rfl _ _ rfl (w.heap.size + 1) _ #[.int .i64 0, .int .u8 0, .slice none 0 0] rfl rfl Hz4.out rfl rfl (by simp [Value.oneCell']) ?_; intro w5 hn5 ho5; have H5 := Lib.hid (And.intro hn5 ho5); clear hn5 ho5)
              | fail)
            refine bodyPost_ret (results_valAnd rfl _ _ (w.heap.size + 1) _ rfl H5.out.1 rfl) rfl ?_
            obtain ⟨hlt, hs2, hRc⟩ := Hs.out
            rw [Hrn.out]
            exact ⟨0, 0, none, 0, 0, t3, s3, rfl, Hend.out.1.only H5.out.2 (by omega), Hend.out.2.only H5.out.2 (by omega), fun v b2 s2 e => by cases e⟩
          · have hd : ((l3 : Int) == (ln : Int)) = false := by simp; omega
            have hrn : r = starT f k ((acc ++ [(xv, [Value.int .i64 kx, Value.int .u8 zx, Value.slice ax lenx capx])]).map (·.1)) (nats t3) s3 := by
              rw [Hstk.out, if_neg (by have := HLn.out; omega), List.map_append]; rfl
            have hk3b : (nats t3).length < k := by have := Hfl.out.1; have := Hk.out; rw [Ht2.out] at this; omega
            have hl3b : acc.length + 1 + s3.length ≤ s.length := by have := Hfl.out.2; have := hlen.out; have := HLn.out; omega
            have hcg : w4.cell? ⟨w.heap.size + 2, 2, none⟩ = some (.slice av n capv) := by rw [cells_at hG4.2.1]; rfl
            have hxv3 : Wc.heap.size ≤ wx.heap.size := by have := HGx.out.2.2.2.size; have := Hb.out.size; omega
            have H4 := Lib.hid (And.intro hG4 (And.intro hr4 (And.intro hxv (And.intro hrn (And.intro hk3b hl3b)))))
            have Hown4 := Lib.hid (show (w4.alloc (.cells #[.int .i64 kx, .int .u8 zx, .slice ax lenx capx] 35)).ownsRow W2.heap.size 35 3 (.slice av n capv) n (acc.flatMap (·.2)) from by have h := (hG4.later (K.alloc_below w4 (.cells #[.int .i64 kx, .int .u8 zx, .slice ax lenx capx] 35)) (by omega) (by omega)).2.2.1; rw [← HN.out] at h; exact h)
            have Hx5 := Lib.hid (val3_in (w := w4.alloc (.cells #[.int .i64 kx, .int .u8 zx, .slice ax lenx capx] 35)) (b := w4.heap.size) (cs := [.int .i64 kx, .int .u8 zx, .slice ax lenx capx]) (World.alloc_heap_new w4 _) rfl)
            have Hsz := Lib.hid (show W2.heap.size ≤ w4.heap.size + 1 by have := hG4.2.2.2.size; omega)
            clear hx hr3 hk3 hq hG3 hal4 hx4 hG4 hr4 hxv hlt hs2 hRc hrn hk3b hl3b r41 hl3 hsame q1 hxv3
            go_upto_region 7 with fail
            rw [← hw4]
            clear hw4
            go_wp2_with (first
              | (refine wpList_load_val rfl _ rfl w3.heap.size 0 _ rfl Hx4.out ?_)
              | (at_builtin; refine wpList_append_val rfl _ _ rfl W2.heap.size (.slice av n capv) n (acc.flatMap (·.2)) rfl Hown4.out w4.heap.size [.int .i64 kx, .int .u8 zx, .slice ax lenx capx] rfl Hx5.out (by simp [Value.oneCell']) (by omega) (by rw [World.size_alloc]; exact Hsz.out) ?_; intro v' w5 hown5 hgr5 hf5; refine Hid.out ?_)
              | fail)
            refine Lib.hid ?_
            obtain ⟨hlt, hs2, hRc⟩ := Hs.out
            have hG6 := H4.out.1.later (K.alloc_below w4 (.cells #[.int .i64 kx, .int .u8 zx, .slice ax lenx capx] 35)) (by omega) (by omega)
            have hv6 : ∀ q, (Value.slice av n capv).ownBlock = some q → q < wx.heap.size := fun q e => (HGx.out.2.2.1.lt q e).2
            have hbx5 : ValIn w5 (w.heap.size + 2) #[.int .i64 6, .int .u8 0, .slice av n capv] := (hgr5.block _ (by have := H4.out.1.2.2.2.size; simp; omega) (fun e => by have := (H4.out.1.2.2.1.lt _ e.symm).1; omega)).trans hG6.2.1
            have hr5 : RdB Wc w5 R t3 s3 := (H4.out.2.1.alloc _).same (hgr5.block R (by have := H4.out.1.2.2.2.size; simp; omega) (fun e => by have := (H4.out.1.2.2.1.lt _ e.symm).1; omega))
            have hcx : w5.cell? ⟨w.heap.size + 2, 2, none⟩ = some (.slice av n capv) := by rw [cells_at hbx5]; rfl
            have hfx := val_zero_free hbx5 2
            have hmore := Grow.more hG6 (by omega) HGx.out.2.2.2.size (H4.out.2.2.1.below (K.alloc_below w4 (.cells #[.int .i64 kx, .int .u8 zx, .slice ax lenx capx] 35))) hv6 (by rw [← HN.out]; exact hown5) hgr5 hf5
            have hr6 := fun v => hr5.only (only_set w5 (w.heap.size + 2) 2 v) (by omega)
            obtain ⟨a', cap', rfl⟩ := owns_form hown5
            have Hmore := Lib.hid hmore
            have Hr6 := Lib.hid hr6
            clear hlt hs2 hRc hG6 hv6 hbx5 hr5 hmore hr6 hown5 hgr5 hf5
            go_wp2_with fail
            go_roundg k
            case measure => omega
            case rel => exact ⟨_, _, acc ++ [(xv, [.int .i64 kx, .int .u8 zx, .slice ax lenx capx])], t3, s3, rfl, Lib.hid H4.out.2.2.2.2.1, Lib.hid (by rw [List.length_append]; exact H4.out.2.2.2.2.2), Lib.hid H4.out.2.2.2.1, Lib.hid Hmore.out, Lib.hid (Hr6.out _)⟩
      by_cases h49 : c = 49
      · subst h49
        refine hch.mono ?_
        clear hch Hch h48
        rintro e wx ⟨rfl, t2, ht2, hr2, hk2⟩
        obtain ⟨hlt, hs2, hRc⟩ := Hs.out
        have hGx := hG.out.call hk2 (by omega) (by omega)
        have Hx := Lib.hid (And.intro hGx (And.intro hr2 (show nats t2 = bs by rw [ht2]; rfl)))
        have Hbx := Lib.hid (val3_in (cs := [.int .i64 6, .int .u8 0, .slice av n capv]) hGx.2.1 rfl)
        have Hzx : Hid (ValIn wx (w.heap.size + 1) #[.int .i64 0, .int .u8 0, .slice none 0 0]) := Lib.hid (hGx.2.2.2.val Hz.out.1 (by omega) (by omega))
        have Hrn := Lib.hid (show r = some (.mk 6 0 (acc.map (·.1)), bs, s1) by rw [hst.out, hbs, starT, if_neg (by decide), if_pos rfl])
        clear ht2 hr2 hk2 hGx hlt hs2 hRc
        go_wp2_with (first
          | (refine wpList_load_val rfl _ rfl (w.heap.size + 2) 0 _ rfl Hbx.out ?_)
          | (refine wpList_store_val rfl _ _ rfl (w.heap.size + 1) _ #[.int .i64 6, .int .u8 0, .slice av n capv] rfl rfl Hzx.out rfl rfl (by simp [Value.oneCell']) ?_; intro w5 hn5 ho5; have H5 := Lib.hid (And.intro hn5 ho5); clear hn5 ho5)
          | fail)
        refine bodyPost_ret (results_valAnd rfl _ _ (w.heap.size + 1) _ rfl H5.out.1 rfl) rfl ?_
        obtain ⟨hlt, hs2, hRc⟩ := Hs.out
        rw [Hrn.out]
        refine ⟨6, 0, av, n, capv, t2, s1, rfl, Hx.out.2.1.only H5.out.2 (by omega), ((Kept.of_below (R := R) (g := R) Hal.out).less Hx.out.1.2.2.2 (by omega)).only H5.out.2 (by omega), fun v b2 s2 e => ?_⟩
        injection e with e
        injection e with e1 e
        injection e with e2 e3
        subst e1 e2 e3
        refine ⟨(Hx.out.1.made (by rfl) (by rw [← HN.out]; unfold maxLen; omega)).mono (Nat.le_of_eq H5.out.2.size.symm) fun q hq _ => ?_, Hx.out.2.2, rfl⟩
        have hq := of_decide_eq_true hq
        exact ⟨decide_eq_true (by omega), H5.out.2.block q (by omega)⟩
      · rw [show choiceOf (c :: bs) = c from rfl] at hch
        refine hch.mono ?_
        clear hch Hch
        rintro e wx ⟨rfl, t2, ht2, hr2, hk2⟩
        obtain ⟨hlt, hs2, hRc⟩ := Hs.out
        have hGx := hG.out.call hk2 (by omega) (by omega)
        have Hx := Lib.hid (And.intro hGx (And.intro hr2 ht2))
        have Hzx : Hid (ValIn wx (w.heap.size + 1) #[.int .i64 0, .int .u8 0, .slice none 0 0]) := Lib.hid (hGx.2.2.2.val Hz.out.1 (by omega) (by omega))
        have Hrn := Lib.hid (show r = none by rw [hst.out, hbs, starT, if_neg h48, if_neg h49])
        have d48 : ((c : Int) == 48) = false := by simp; omega
        have d49 : ((c : Int) == 49) = false := by simp; omega
        clear ht2 hr2 hk2 hGx hlt hs2 hRc h48 h49
        go_wp2_with (first
          | (refine wpList_store_val rfl _ _ rfl (w.heap.size + 1) _ #[.int .i64 0, .int .u8 0, .slice none 0 0] rfl rfl Hzx.out rfl rfl (by simp [Value.oneCell']) ?_; intro w5 hn5 ho5; have H5 := Lib.hid (And.intro hn5 ho5); clear hn5 ho5)
          | fail)
        refine bodyPost_ret (results_valAnd rfl _ _ (w.heap.size + 1) _ rfl H5.out.1 rfl) rfl ?_
        obtain ⟨hlt, hs2, hRc⟩ := Hs.out
        rw [Hrn.out]
        exact ⟨0, 0, none, 0, 0, t2, s1, rfl, Hx.out.2.1.only H5.out.2 (by omega), ((Kept.of_below (R := R) (g := R) Hal.out).less Hx.out.1.2.2.2 (by omega)).only H5.out.2 (by omega), fun v b2 s2 e => by cases e⟩
end V
end Go.Proofs.Ytklmomgccmekkaa
namespace Go.Proofs.Ytklmomgccmekkaa
namespace V
set_option maxRecDepth 100000
open Go.RowKit
theorem got_end {Wc w W2 w3 w5 : World} {R : Nat} {r : Option (Vl × List Nat × List Nat)} {k : Int} {z : Nat} {a : Option Addr} {len cap : Nat} {t : ByteArray} {s : List Nat} (hal : Below w.heap.size w W2) (hs : R < w.heap.size ∧ W2.heap.size = w.heap.size + 1 + 1) (hr : RdB Wc w3 R t s) (hk : Kept R R W2 w3)
    (hq : ∀ v b2 s2, r = some (v, b2, s2) → ValOn (fromV W2.heap.size) w3 v [.int .i64 k, .int .u8 z, .slice a len cap] ∧ nats t = b2 ∧ s = s2) (ho : Only (w.heap.size + 1) w3 w5) :
    GotPost Wc w R r (.returned (.tuple #[.agg #[.int .i64 k, .int .u8 z, .slice a len cap], .bool r.isSome])) w5 := by
  refine ⟨k, z, a, len, cap, t, s, rfl, hr.only ho (by omega), ((Kept.of_below (R := R) (g := R) hal).trans hk).only ho (by omega), fun v b2 s2 e => ?_⟩
  obtain ⟨h1, h2, h3⟩ := hq v b2 s2 e
  refine ⟨h1.mono (Nat.le_of_eq ho.size.symm) fun q hq _ => ?_, h2, h3⟩
  have hq := of_decide_eq_true hq
  exact ⟨decide_eq_true (by omega), ho.block q (by omega)⟩
theorem got_end2 {Wc w W2 wx w3 w5 : World} {R : Nat} {r : Option (Vl × List Nat × List Nat)} {k : Int} {z : Nat} {a : Option Addr} {len cap : Nat} {t : ByteArray} {s : List Nat} (hal : Below w.heap.size w W2) (hs : R < w.heap.size ∧ W2.heap.size = w.heap.size + 1 + 1) (hk0 : Kept R R W2 wx) (hr : RdB Wc w3 R t s) (hk : Kept R R wx w3)
    (hq : ∀ v b2 s2, r = some (v, b2, s2) → ValOn (fromV wx.heap.size) w3 v [.int .i64 k, .int .u8 z, .slice a len cap] ∧ nats t = b2 ∧ s = s2) (ho : Only (w.heap.size + 1) w3 w5) :
    GotPost Wc w R r (.returned (.tuple #[.agg #[.int .i64 k, .int .u8 z, .slice a len cap], .bool r.isSome])) w5 :=
  got_end hal hs hr (hk0.trans hk) (fun v b2 s2 e => by
    obtain ⟨h1, h2, h3⟩ := hq v b2 s2 e
    refine ⟨h1.mono (Nat.le_refl _) fun q hq _ => ?_, h2, h3⟩
    have hq := of_decide_eq_true hq
    have := hk0.size
    exact ⟨decide_eq_true (by omega), rfl⟩) ho
theorem forms_all : ∀ (l : List K.Cr), K.forms l = true → ∀ y ∈ l, y.form = true
  | [], _, y, hy => by cases hy
  | x :: l, h, y, hy => by
    rw [K.forms_cons, Bool.and_eq_true] at h
    rcases List.mem_cons.1 hy with rfl | hy
    · exact h.1
    · exact forms_all l h.2 y hy
/-- the parts of a good core -/
theorem good_parts {k : Int} {st : BitVec 256} {n : Int} {l : List K.Cr} (h : K.goodC (.mk k st n l) = true) : (∀ y ∈ l, K.goodC y = true) ∧
    ((k = 0 ∨ k = 1) ∧ l = [] ∨ k = 2 ∧ l = [] ∨ (k = 3 ∨ k = 4) ∧ (∃ x y, l = [x, y]) ∨ (k = 5 ∨ k = 6 ∨ k = 7) ∧ ∃ x, l = [x]) := by
  unfold K.goodC at h
  rw [Bool.and_eq_true, decide_eq_true_eq, K.form_mk, Bool.and_eq_true] at h
  obtain ⟨hc, hp, hf⟩ := h
  refine ⟨fun y hy => ?_, ?_⟩
  · unfold K.goodC
    have h1 := K.counts_mem hy
    rw [K.count_mk] at hc
    rw [forms_all l hf y hy, decide_eq_true (by omega)]; rfl
  · unfold K.partOk at hp
    rw [Bool.and_eq_true] at hp
    have hp := hp.2
    by_cases h0 : k = 0 ∨ k = 1 ∨ k = 2
    · rw [if_pos h0, decide_eq_true_eq, List.length_eq_zero_iff] at hp
      rcases h0 with h0 | h0 | h0
      · exact .inl ⟨.inl h0, hp⟩
      · exact .inl ⟨.inr h0, hp⟩
      · exact .inr (.inl ⟨h0, hp⟩)
    rw [if_neg h0] at hp
    by_cases h3 : k = 3 ∨ k = 4
    · rw [if_pos h3, decide_eq_true_eq] at hp
      match l, hp with
      | [x, y], _ => exact .inr (.inr (.inl ⟨h3, x, y, rfl⟩))
    rw [if_neg h3] at hp
    by_cases h5 : k = 5 ∨ k = 7
    · rw [if_pos h5, decide_eq_true_eq] at hp
      match l, hp with
      | [x], _ => exact .inr (.inr (.inr ⟨by omega, x, rfl⟩))
    rw [if_neg h5] at hp
    by_cases h6 : k = 6
    · rw [if_pos h6, Bool.and_eq_true, Bool.and_eq_true, decide_eq_true_eq] at hp
      match l, hp with
      | [x], _ => exact .inr (.inr (.inr ⟨by omega, x, rfl⟩))
    · rw [if_neg h6] at hp; cases hp
theorem got_shorter (c : K.Cr) : ∀ bs s x b1 s1, got c bs s = some (x, b1, s1) → b1.length ≤ bs.length ∧ s1.length ≤ s.length := fun bs s x b1 s1 h => by
  obtain ⟨_, _, h1, h2⟩ := got_told _ c (Nat.le_refl _) _ _ _ _ _ h
  rw [h1, h2, List.length_append, List.length_append]
  omega
set_option maxHeartbeats 8000000 in
theorem value_any {Wc : World} {R : Nat} : ∀ (m : Nat) (c : K.Cr), c.count ≤ m → K.goodC c = true → ∀ cs, K.Cr.at Wc c cs → ReadOk Wc R (got c) cs
  | 0, c, hm, _, _, _ => absurd (K.Cr.count_pos c) (by omega)
  | m + 1, .mk k st n0 l, hm, hg, cs, hat => by
    intro t s w hb h
    obtain ⟨hkids, hkind⟩ := good_parts hg
    have hkid : ∀ y ∈ l, ∀ cs, K.Cr.at Wc y cs → ReadOk Wc R (got y) cs := fun y hy => value_any m y (by have := K.counts_mem hy; rw [K.count_mk] at hm; omega) (hkids y hy)
    obtain ⟨W2, hW2⟩ : ∃ W2, W2 = (w.alloc (.cells cs.toArray 28)).alloc (.cells #[.int .i64 0, .int .u8 0, .slice none 0 0] 35) := ⟨_, rfl⟩
    have hal : Below w.heap.size w W2 := by rw [hW2]; exact ((Below.refl _ _).alloc (Nat.le_refl _) _).alloc (by simp) _
    have hs2 : W2.heap.size = w.heap.size + 1 + 1 := by rw [hW2]; simp
    have hcb : K.CoreIn W2 w.heap.size cs.toArray := by rw [hW2]; exact (Below.heap_alloc _ _ _ (by simp)).trans (World.alloc_heap_new w _)
    have hzb : ValIn W2 (w.heap.size + 1) #[.int .i64 0, .int .u8 0, .slice none 0 0] := by rw [hW2]; have h := World.alloc_heap_new (w.alloc (.cells cs.toArray 28)) (.cells #[.int .i64 0, .int .u8 0, .slice none 0 0] 35); rw [World.size_alloc] at h; exact h
    have hlt := h.lt
    have h2 := h.later hal
    have hb2 := hb.trans (hal.mono hb.size)
    obtain ⟨r, hr⟩ : ∃ r, r = got (.mk k st n0 l) (nats t) s := ⟨_, rfl⟩
    rw [← hr]
    rw [got_mk] at hr
    have hat0 := hat
    rw [K.at_mk] at hat
    obtain ⟨_, _, a, cap, rfl, hmax, hl⟩ := hat
    have c0 := cells_at hcb 0
    have c6 := cells_at hcb 6
    simp only [List.getElem?_toArray, List.getElem?_cons_zero, List.getElem?_cons_succ] at c0 c6
    have Hz := Lib.hid hzb
    have Hal := Lib.hid hal
    have Hs := Lib.hid (And.intro hlt hs2)
    have H2 := Lib.hid (And.intro h2 (And.intro hb2 (K.core7_in (cs := [.int .i64 k, .int .u64 (word st 0), .int .u64 (word st 1), .int .u64 (word st 2), .int .u64 (word st 3), .int .i64 n0, .slice a l.length cap]) hcb rfl)))
    have Hkid := Lib.hid hkid
    have Hl := Lib.hid hl
    have Hat0 := Lib.hid (And.intro hat0 hg)
    clear hkids hkid hal hs2 hcb hzb hlt h2 hb2 h hb hat0 hl hmax hm hg
    rcases hkind with ⟨hk, rfl⟩ | ⟨rfl, rfl⟩ | ⟨hk, x, y, rfl⟩ | ⟨hk, x, rfl⟩
    · rcases hk with rfl | rfl
      · have Hr := Lib.hid (show r = none from hr)
        have HzN := Hz
        simp only [List.length_nil] at hW2 c0
        clear hr c6
        go_enter Try.func45, Try.ntmps45
        go_upto_region 1 with fail
        rw [← hW2]
        clear hW2
        go_wp2_with (first
          | (refine wpList_store_val rfl _ _ rfl (w.heap.size + 1) _ #[.int .i64 0, .int .u8 0, .slice none 0 0] rfl rfl HzN.out rfl rfl (by simp [Value.oneCell']) ?_; intro w5 hn5 ho5; have H5 := Lib.hid (And.intro hn5 ho5); clear hn5 ho5)
          | fail)
        refine bodyPost_ret (results_valAnd rfl _ _ (w.heap.size + 1) _ rfl H5.out.1 rfl) rfl ?_
        rw [Hr.out]
        exact got_end (r := none) Hal.out Hs.out H2.out.1 (Kept.refl _ _ _) (fun v b2 s2 e => by cases e) H5.out.2
      · have Hr := Lib.hid (show r = some (.mk 1 0 [], nats t, s) from hr)
        simp only [List.length_nil] at hW2 c0
        clear hr c6
        go_enter Try.func45, Try.ntmps45
        go_upto_region 1 with fail
        rw [← hW2]
        clear hW2
        go_wp2_with (first
          | (refine wpList_store_val rfl _ _ rfl (w.heap.size + 1) _ #[.int .i64 1, .int .u8 0, .slice none 0 0] rfl rfl Hz.out rfl rfl (by simp [Value.oneCell']) ?_; intro w5 hn5 ho5; have H5 := Lib.hid (And.intro hn5 ho5); clear hn5 ho5)
          | fail)
        refine bodyPost_ret (results_valAnd rfl _ _ (w.heap.size + 1) _ rfl H5.out.1 rfl) rfl ?_
        rw [Hr.out]
        refine got_end (r := some (.mk 1 0 [], nats t, s)) Hal.out Hs.out H2.out.1 (Kept.refl _ _ _) (fun v b2 s2 e => ?_) H5.out.2
        injection e with e
        injection e with e1 e
        injection e with e2 e3
        subst e1 e2 e3
        exact ⟨ValOn.plain _ _ rfl (by decide), rfl, rfl⟩
    · have hc := letter_walk H2.out.2.1 H2.out.1 (Hat0.out.1) Hat0.out.2
      have e : setT st (nats t) s = r := hr.symm
      rw [e] at hc
      have Hc := Lib.hid hc
      simp only [List.length_nil] at hW2 c0
      clear hr c6 e hc
      go_enter Try.func45, Try.ntmps45
      go_upto_region 1 with fail
      rw [← hW2]
      clear hW2
      go_wp2_with (first
        | (refine K.wpList_load_core rfl _ rfl w.heap.size 0 _ rfl H2.out.2.2 ?_)
        | fail)
      refine Hc.out.mono ?_
      rintro e w3 ⟨kx, zx, ax, lenx, capx, t3, s3, rfl, hr3, hk3, hq⟩
      have Hend := Lib.hid (And.intro hr3 (And.intro hk3 hq))
      have Hz3 : Hid (ValIn w3 (w.heap.size + 1) #[.int .i64 0, .int .u8 0, .slice none 0 0]) := Lib.hid (by have := Hs.out; exact hk3.val Hz.out (by omega) (by omega))
      clear hr3 hk3 hq
      go_wp2_with (first
        | (refine wpList_store_val rfl _ _ rfl (w.heap.size + 1) _ #[.int .i64 kx, .int .u8 zx, .slice ax lenx capx] rfl rfl Hz3.out rfl rfl (by simp [Value.oneCell']) ?_; intro w5 hn5 ho5; have H5 := Lib.hid (And.intro hn5 ho5); clear hn5 ho5)
        | fail)
      refine bodyPost_ret (results_valAnd rfl _ _ (w.heap.size + 1) _ rfl H5.out.1 rfl) rfl ?_
      exact got_end Hal.out Hs.out Hend.out.1 Hend.out.2.1 Hend.out.2.2 H5.out.2
    · rcases hk with rfl | rfl
      · have hc := elements_walk 3 rfl [x, y] (fun z hz => Hkid.out z hz) a cap (by simp) Hl.out H2.out.2.1 H2.out.1
        rw [List.map_cons, List.map_cons, List.map_nil, row_two] at hc
        have e : twoT (got x) (got y) (nats t) s = r := hr.symm
        rw [e] at hc
        have Hc := Lib.hid hc
        clear hr e hc
        simp only [List.length_cons, List.length_nil, Nat.zero_add, Nat.reduceAdd] at c6 hW2 c0
        go_enter Try.func45, Try.ntmps45
        go_upto_region 1 with fail
        rw [← hW2]
        clear hW2
        go_wp2_with fail
        refine Hc.out.mono ?_
        rintro e w3 ⟨kx, zx, ax, lenx, capx, t3, s3, rfl, hr3, hk3, hq⟩
        have Hend := Lib.hid (And.intro hr3 (And.intro hk3 hq))
        have Hz3 : Hid (ValIn w3 (w.heap.size + 1) #[.int .i64 0, .int .u8 0, .slice none 0 0]) := Lib.hid (by have := Hs.out; exact hk3.val Hz.out (by omega) (by omega))
        clear hr3 hk3 hq
        go_wp2_with (first
          | (refine wpList_store_val rfl _ _ rfl (w.heap.size + 1) _ #[.int .i64 kx, .int .u8 zx, .slice ax lenx capx] rfl rfl Hz3.out rfl rfl (by simp [Value.oneCell']) ?_; intro w5 hn5 ho5; have H5 := Lib.hid (And.intro hn5 ho5); clear hn5 ho5)
          | fail)
        refine bodyPost_ret (results_valAnd rfl _ _ (w.heap.size + 1) _ rfl H5.out.1 rfl) rfl ?_
        exact got_end Hal.out Hs.out Hend.out.1 Hend.out.2.1 Hend.out.2.2 H5.out.2
      · replace hr : r = altT (got x) (got y) (nats t) s := hr
        have Hch := Lib.hid (choice_walk H2.out.1)
        obtain ⟨bl, offl, rfl, hcapl, hbl, hcores⟩ := Hl.out.resolve_left (by simp)
        rw [K.coresAt_cons, K.coresAt_cons] at hcores
        simp only [List.length_cons, List.length_nil, Nat.zero_add, Nat.reduceAdd] at c6 hW2 c0 hcapl
        have hcapI : (2 : Int) ≤ (cap : Int) := by omega
        have hcap1 : (1 : Int) ≤ (cap : Int) := by omega
        have hcapN : ¬ cap = 1 := by omega
        have Hx : Hid (∀ (t2 : ByteArray) (w' : World), Below Wc.heap.size Wc w' → RdB Wc w' R t2 s → ∀ cap', 1 ≤ cap' → Calls Try.prog 67 #[.pointer (some ⟨R, 0, none⟩), .int .i64 4, .slice (some ⟨bl, offl, none⟩) 1 cap'] w' (GotPost Wc w' R (oneT (got x) 4 (nats t2) s))) := Lib.hid fun t2 w' h1 h2 cap' h3 => by
          rw [← row_one]
          exact elements_walk 4 rfl [x] (fun z hz => Hkid.out z (by rw [List.mem_singleton] at hz; rw [hz]; simp)) _ cap' (by simp) (.inr ⟨bl, offl, rfl, h3, hbl, by rw [K.coresAt_cons, K.coresAt_nil]; exact ⟨hcores.1, trivial⟩⟩) h1 h2
        have Hy : Hid (∀ (t2 : ByteArray) (w' : World), Below Wc.heap.size Wc w' → RdB Wc w' R t2 s → ∀ cap', 1 ≤ cap' → Calls Try.prog 67 #[.pointer (some ⟨R, 0, none⟩), .int .i64 5, .slice (some ⟨bl, offl + 7, none⟩) 1 cap'] w' (GotPost Wc w' R (oneT (got y) 5 (nats t2) s))) := Lib.hid fun t2 w' h1 h2 cap' h3 => by
          rw [← row_one]
          exact elements_walk 5 rfl [y] (fun z hz => Hkid.out z (by rw [List.mem_singleton] at hz; rw [hz]; simp)) _ cap' (by simp) (.inr ⟨bl, offl + 7, rfl, h3, hbl, by rw [K.coresAt_cons, K.coresAt_nil]; exact ⟨hcores.2.1, trivial⟩⟩) h1 h2
        have Hcap := Lib.hid hcapl
        have Hr0 := Lib.hid hr
        clear hr hcores hbl
        go_enter Try.func45, Try.ntmps45
        go_upto_region 1 with fail
        rw [← hW2]
        clear hW2
        go_wp2_with fail
        cases hbs : nats t with
        | nil =>
          have hch := Hch.out
          rw [hbs] at hch
          refine hch.mono ?_
          clear hch Hch
          rintro e wx ⟨rfl, t2, ht2, hr2, hk2⟩
          have HzN : Hid (ValIn wx (w.heap.size + 1) #[.int .i64 0, .int .u8 0, .slice none 0 0]) := Lib.hid (by have := Hs.out; exact hk2.val Hz.out (by omega) (by omega))
          have Hr := Lib.hid (show r = none by rw [Hr0.out, hbs]; rfl)
          have Hx2 := Lib.hid (And.intro hr2 hk2)
          clear ht2 hr2 hk2
          go_wp2_with (first
            | (refine wpList_store_val rfl _ _ rfl (w.heap.size + 1) _ #[.int .i64 0, .int .u8 0, .slice none 0 0] rfl rfl HzN.out rfl rfl (by simp [Value.oneCell']) ?_; intro w5 hn5 ho5; have H5 := Lib.hid (And.intro hn5 ho5); clear hn5 ho5)
            | fail)
          refine bodyPost_ret (results_valAnd rfl _ _ (w.heap.size + 1) _ rfl H5.out.1 rfl) rfl ?_
          rw [Hr.out]
          exact got_end (r := none) Hal.out Hs.out Hx2.out.1 Hx2.out.2 (fun v b2 s2 e => by cases e) H5.out.2

        | cons c bs =>
          have hch := Hch.out
          rw [hbs, show choiceOf (c :: bs) = c from rfl] at hch
          refine hch.mono ?_
          clear hch Hch
          rintro e wx ⟨rfl, t2, ht2, hr2, hk2⟩
          have hbx : Below Wc.heap.size Wc wx := by
            have hRc : Wc.heap.size ≤ R := hr2.choose_spec.choose_spec.2.2.1
            exact hk2.below H2.out.2.1 hRc hRc H2.out.2.1.size
          have ht2' : nats t2 = bs := by rw [ht2]; rfl
          have d6 : wx.cell? ⟨w.heap.size, 6, none⟩ = some (.slice (some ⟨bl, offl, none⟩) 2 cap) := by
            have := Hs.out
            rw [World.cell?_of_block (hk2.block w.heap.size (by omega) (by omega) (by omega))]; exact c6
          by_cases h48 : c = 48
          · subst h48
            have hc := Hx.out t2 wx hbx hr2 cap (by have := Hcap.out; omega)
            have hr1 : r = oneT (got x) 4 bs s := by rw [Hr0.out, hbs]; rfl
            rw [ht2', ← hr1] at hc
            have Hc := Lib.hid hc
            have Hz := Lib.hid (show ValIn wx (w.heap.size + 1) #[.int .i64 0, .int .u8 0, .slice none 0 0] from by have := Hs.out; exact hk2.val Hz.out (by omega) (by omega))
            have Hk2 := Lib.hid hk2
            clear hc hr1 ht2 hr2 hk2 hbx ht2' hbs
            go_wp2_with fail
            refine Hc.out.mono ?_
            rintro e w3 ⟨kx, zx, ax, lenx, capx, t3, s3, rfl, hr3, hk3, hq⟩
            have Hend := Lib.hid (And.intro hr3 (And.intro hk3 hq))
            have Hz3 : Hid (ValIn w3 (w.heap.size + 1) #[.int .i64 0, .int .u8 0, .slice none 0 0]) := Lib.hid (by have := Hs.out; exact hk3.val Hz.out (by omega) (by omega))
            clear hr3 hk3 hq
            go_wp2_with (first
              | (refine wpList_store_val rfl _ _ rfl (w.heap.size + 1) _ #[.int .i64 kx, .int .u8 zx, .slice ax lenx capx] rfl rfl Hz3.out rfl rfl (by simp [Value.oneCell']) ?_; intro w5 hn5 ho5; have H5 := Lib.hid (And.intro hn5 ho5); clear hn5 ho5)
              | fail)
            refine bodyPost_ret (results_valAnd rfl _ _ (w.heap.size + 1) _ rfl H5.out.1 rfl) rfl ?_
            exact got_end2 Hal.out Hs.out Hk2.out Hend.out.1 Hend.out.2.1 Hend.out.2.2 H5.out.2

          by_cases h49 : c = 49
          · subst h49
            have hc := Hy.out t2 wx hbx hr2 (cap - 1) (by have := Hcap.out; omega)
            have hr1 : r = oneT (got y) 5 bs s := by rw [Hr0.out, hbs]; rfl
            rw [ht2', ← hr1] at hc
            have Hc := Lib.hid hc
            have Hz := Lib.hid (show ValIn wx (w.heap.size + 1) #[.int .i64 0, .int .u8 0, .slice none 0 0] from by have := Hs.out; exact hk2.val Hz.out (by omega) (by omega))
            have Hk2 := Lib.hid hk2
            clear hc hr1 ht2 hr2 hk2 hbx ht2' hbs h48
            go_wp2_with fail
            refine Hc.out.mono ?_
            rintro e w3 ⟨kx, zx, ax, lenx, capx, t3, s3, rfl, hr3, hk3, hq⟩
            have Hend := Lib.hid (And.intro hr3 (And.intro hk3 hq))
            have Hz3 : Hid (ValIn w3 (w.heap.size + 1) #[.int .i64 0, .int .u8 0, .slice none 0 0]) := Lib.hid (by have := Hs.out; exact hk3.val Hz.out (by omega) (by omega))
            clear hr3 hk3 hq
            go_wp2_with (first
              | (refine wpList_store_val rfl _ _ rfl (w.heap.size + 1) _ #[.int .i64 kx, .int .u8 zx, .slice ax lenx capx] rfl rfl Hz3.out rfl rfl (by simp [Value.oneCell']) ?_; intro w5 hn5 ho5; have H5 := Lib.hid (And.intro hn5 ho5); clear hn5 ho5)
              | fail)
            refine bodyPost_ret (results_valAnd rfl _ _ (w.heap.size + 1) _ rfl H5.out.1 rfl) rfl ?_
            exact got_end2 Hal.out Hs.out Hk2.out Hend.out.1 Hend.out.2.1 Hend.out.2.2 H5.out.2

          · have HzN : Hid (ValIn wx (w.heap.size + 1) #[.int .i64 0, .int .u8 0, .slice none 0 0]) := Lib.hid (by have := Hs.out; exact hk2.val Hz.out (by omega) (by omega))
            have Hr := Lib.hid (show r = none by rw [Hr0.out, hbs]; show (if c = 48 then _ else if c = 49 then _ else none) = none; rw [if_neg h48, if_neg h49])
            have Hx2 := Lib.hid (And.intro hr2 hk2)
            have d48 : ((c : Int) == 48) = false := by simp; omega
            have d49 : ((c : Int) == 49) = false := by simp; omega
            clear ht2 hr2 hk2 hbx ht2' hbs h48 h49
            go_wp2_with (first
              | (refine wpList_store_val rfl _ _ rfl (w.heap.size + 1) _ #[.int .i64 0, .int .u8 0, .slice none 0 0] rfl rfl HzN.out rfl rfl (by simp [Value.oneCell']) ?_; intro w5 hn5 ho5; have H5 := Lib.hid (And.intro hn5 ho5); clear hn5 ho5)
              | fail)
            refine bodyPost_ret (results_valAnd rfl _ _ (w.heap.size + 1) _ rfl H5.out.1 rfl) rfl ?_
            rw [Hr.out]
            exact got_end (r := none) Hal.out Hs.out Hx2.out.1 Hx2.out.2 (fun v b2 s2 e => by cases e) H5.out.2
    · obtain ⟨bl, offl, rfl, hcapl, hbl, hcores⟩ := Hl.out.resolve_left (by simp)
      rw [K.coresAt_cons] at hcores
      obtain ⟨⟨ds, hds, hcell, hatx⟩, _⟩ := hcores
      rcases hk with rfl | rfl | rfl
      · have hc := star_walk (got_shorter x) ds ⟨x, hatx⟩ (Hkid.out x (by simp) ds hatx) H2.out.2.1 H2.out.1
        have e : starT (got x) ((nats t).length + 1) [] (nats t) s = r := hr.symm
        rw [e] at hc
        have Hc := Lib.hid hc
        clear e hc
        have H9 := Lib.hid (core7_below ⟨hds, hcell⟩ hbl H2.out.2.1)
        obtain ⟨kq, sq, nq, aq, lenq, capq, rfl⟩ := K.at_lit hatx
        simp only [List.length_cons, List.length_nil, Nat.zero_add] at c6 hW2 c0
        clear hr hcell hatx hds
        go_enter Try.func45, Try.ntmps45
        go_upto_region 1 with fail
        rw [← hW2]
        clear hW2
        go_wp2_with (first
          | (refine K.wpList_load_core rfl _ rfl bl offl _ rfl H9.out ?_)
          | fail)
        refine Hc.out.mono ?_
        rintro e w3 ⟨kx, zx, ax, lenx, capx, t3, s3, rfl, hr3, hk3, hq⟩
        have Hend := Lib.hid (And.intro hr3 (And.intro hk3 hq))
        have Hz3 : Hid (ValIn w3 (w.heap.size + 1) #[.int .i64 0, .int .u8 0, .slice none 0 0]) := Lib.hid (by have := Hs.out; exact hk3.val Hz.out (by omega) (by omega))
        clear hr3 hk3 hq
        go_wp2_with (first
          | (refine wpList_store_val rfl _ _ rfl (w.heap.size + 1) _ #[.int .i64 kx, .int .u8 zx, .slice ax lenx capx] rfl rfl Hz3.out rfl rfl (by simp [Value.oneCell']) ?_; intro w5 hn5 ho5; have H5 := Lib.hid (And.intro hn5 ho5); clear hn5 ho5)
          | fail)
        refine bodyPost_ret (results_valAnd rfl _ _ (w.heap.size + 1) _ rfl H5.out.1 rfl) rfl ?_
        exact got_end Hal.out Hs.out Hend.out.1 Hend.out.2.1 Hend.out.2.2 H5.out.2
      · have hc := elements_walk 7 rfl [x] (fun z hz => Hkid.out z hz) _ cap (by simp) Hl.out H2.out.2.1 H2.out.1
        rw [List.map_cons, List.map_nil, row_one] at hc
        have e : oneT (got x) 7 (nats t) s = r := hr.symm
        rw [e] at hc
        have Hc := Lib.hid hc
        clear e hc
        simp only [List.length_cons, List.length_nil, Nat.zero_add] at c6 hW2 c0
        clear hr hcell hatx hds
        go_enter Try.func45, Try.ntmps45
        go_upto_region 1 with fail
        rw [← hW2]
        clear hW2
        go_wp2_with fail
        refine Hc.out.mono ?_
        rintro e w3 ⟨kx, zx, ax, lenx, capx, t3, s3, rfl, hr3, hk3, hq⟩
        have Hend := Lib.hid (And.intro hr3 (And.intro hk3 hq))
        have Hz3 : Hid (ValIn w3 (w.heap.size + 1) #[.int .i64 0, .int .u8 0, .slice none 0 0]) := Lib.hid (by have := Hs.out; exact hk3.val Hz.out (by omega) (by omega))
        clear hr3 hk3 hq
        go_wp2_with (first
          | (refine wpList_store_val rfl _ _ rfl (w.heap.size + 1) _ #[.int .i64 kx, .int .u8 zx, .slice ax lenx capx] rfl rfl Hz3.out rfl rfl (by simp [Value.oneCell']) ?_; intro w5 hn5 ho5; have H5 := Lib.hid (And.intro hn5 ho5); clear hn5 ho5)
          | fail)
        refine bodyPost_ret (results_valAnd rfl _ _ (w.heap.size + 1) _ rfl H5.out.1 rfl) rfl ?_
        exact got_end Hal.out Hs.out Hend.out.1 Hend.out.2.1 Hend.out.2.2 H5.out.2
      · have hc := Hkid.out x (by simp) ds hatx t s W2 H2.out.2.1 H2.out.1
        have e : got x (nats t) s = r := hr.symm
        rw [e] at hc
        have Hc := Lib.hid hc
        clear e hc
        have H9 := Lib.hid (core7_below ⟨hds, hcell⟩ hbl H2.out.2.1)
        obtain ⟨kq, sq, nq, aq, lenq, capq, rfl⟩ := K.at_lit hatx
        simp only [List.length_cons, List.length_nil, Nat.zero_add] at c6 hW2 c0
        clear hr hcell hatx hds
        go_enter Try.func45, Try.ntmps45
        go_upto_region 1 with fail
        rw [← hW2]
        clear hW2
        go_wp2_with (first
          | (refine K.wpList_load_core rfl _ rfl bl offl _ rfl H9.out ?_)
          | fail)
        refine Hc.out.mono ?_
        rintro e w3 ⟨kx, zx, ax, lenx, capx, t3, s3, rfl, hr3, hk3, hq⟩
        have Hend := Lib.hid (And.intro hr3 (And.intro hk3 hq))
        have Hz3 : Hid (ValIn w3 (w.heap.size + 1) #[.int .i64 0, .int .u8 0, .slice none 0 0]) := Lib.hid (by have := Hs.out; exact hk3.val Hz.out (by omega) (by omega))
        clear hr3 hk3 hq
        go_wp2_with (first
          | (refine wpList_store_val rfl _ _ rfl (w.heap.size + 1) _ #[.int .i64 kx, .int .u8 zx, .slice ax lenx capx] rfl rfl Hz3.out rfl rfl (by simp [Value.oneCell']) ?_; intro w5 hn5 ho5; have H5 := Lib.hid (And.intro hn5 ho5); clear hn5 ho5)
          | fail)
        refine bodyPost_ret (results_valAnd rfl _ _ (w.heap.size + 1) _ rfl H5.out.1 rfl) rfl ?_
        exact got_end Hal.out Hs.out Hend.out.1 Hend.out.2.1 Hend.out.2.2 H5.out.2
end V
end Go.Proofs.Ytklmomgccmekkaa
namespace Go.Proofs.Ytklmomgccmekkaa
namespace V
set_option maxRecDepth 100000
open Go.RowKit
/-- what Get answers -/
def resG (c : K.Cr) (bs s : List Nat) : Vl × Int := if decide (256 < s.length) || !K.goodC c then (v0, 1) else match getV c bs s with
  | none => (v0, 7)
  | some v => (v, 0)
def GetPost (w : World) (q : Vl × Int) (e : Ending) (w' : World) : Prop :=
  ∃ (k : Int) (z : Nat) (a : Option Addr) (len cap : Nat), e = .returned (.tuple #[.agg #[.int .i64 k, .int .u8 z, .slice a len cap], .int .i64 q.2]) ∧ ValOn (fromV w.heap.size) w' q.1 [.int .i64 k, .int .u8 z, .slice a len cap] ∧ Below w.heap.size w w'
theorem get_end {w W w' : World} {b : Int} (hb : Below w.heap.size w W) (ho : Only (w.heap.size + 1) W w') : GetPost w (v0, b) (.returned (.tuple #[.agg #[.int .i64 0, .int .u8 0, .slice none 0 0], .int .i64 b])) w' :=
  ⟨0, 0, none, 0, 0, rfl, ValOn.plain _ _ rfl (by decide), ho.below hb (by omega)⟩
set_option maxHeartbeats 8000000 in
theorem get_any {c : K.Cr} {cs : List Value} {w : World} {t : ByteArray} {a : Option Addr} {n cap : Nat} {s : List Nat} (hat : K.Cr.at w c cs) (hs : BytesAt w a n cap s) (ht : t.size ≤ 9223372036854775807) :
    Calls Try.prog 15 #[.agg cs.toArray, .string t, .slice a n cap] w (GetPost w (resG c (nats t) s)) := by
  obtain ⟨W2, hW2⟩ : ∃ W2, W2 = (w.alloc (.cells cs.toArray 28)).alloc (.cells #[.int .i64 0, .int .u8 0, .slice none 0 0] 35) := ⟨_, rfl⟩
  have hal : Below w.heap.size w W2 := by rw [hW2]; exact ((Below.refl _ _).alloc (Nat.le_refl _) _).alloc (by simp) _
  have hs2 : W2.heap.size = w.heap.size + 1 + 1 := by rw [hW2]; simp
  have hcb : K.CoreIn W2 w.heap.size cs.toArray := by rw [hW2]; exact (Below.heap_alloc _ _ _ (by simp)).trans (World.alloc_heap_new w _)
  have hzb : ValIn W2 (w.heap.size + 1) #[.int .i64 0, .int .u8 0, .slice none 0 0] := by rw [hW2]; have h := World.alloc_heap_new (w.alloc (.cells cs.toArray 28)) (.cells #[.int .i64 0, .int .u8 0, .slice none 0 0] 35); rw [World.size_alloc] at h; exact h
  have hat2 := K.Cr.at_below hal (Nat.le_refl _) _ _ hat
  have hby2 := bytes_keep hs hal
  have hgood := K.good_walk hat2
  obtain ⟨hn, _, hmax, _⟩ := id hs
  have hmx : (n : Int) ≤ 9223372036854775807 := by unfold maxLen at hmax; omega
  obtain ⟨q, hq⟩ : ∃ q, q = resG c (nats t) s := ⟨_, rfl⟩
  rw [← hq]
  obtain ⟨kc, sc, nc, ac, lenc, capc, rfl⟩ := K.at_lit hat
  have hc7 : K.Core7 W2 w.heap.size 0 [.int .i64 kc, .int .u64 (word sc 0), .int .u64 (word sc 1), .int .u64 (word sc 2), .int .u64 (word sc 3), .int .i64 nc, .slice ac lenc capc] := K.core7_in hcb rfl
  have Hz := Lib.hid hzb
  have Hal := Lib.hid hal
  have Hs2 := Lib.hid hs2
  have Hc7 := Lib.hid hc7
  have Hat := Lib.hid hat2
  have Hby := Lib.hid hby2
  have HN := Lib.hid hn
  have Hgood := Lib.hid hgood
  clear hs hat hat2 hal hs2 hcb hzb hc7 hby2 hgood hmax hn
  by_cases hn256 : 256 < n
  · have d1 : decide ((n : Int) > 256) = true := by simp; omega
    have d2 : decide ((256 : Int) < n) = true := by simp; omega
    have Hq := Lib.hid (show q = (v0, 1) by rw [hq]; unfold resG; rw [decide_eq_true (by rw [← HN.out]; exact hn256)]; rfl)
    clear hq hn256
    go_enter Try.func15, Try.ntmps15
    go_upto_region 1 with fail
    rw [← hW2]
    clear hW2
    go_wp2_with (first
      | (refine wpList_store_val rfl _ _ rfl (w.heap.size + 1) _ #[.int .i64 0, .int .u8 0, .slice none 0 0] rfl rfl Hz.out rfl rfl (by simp [Value.oneCell']) ?_; intro w5 hn5 ho5; have H5 := Lib.hid (And.intro hn5 ho5); clear hn5 ho5)
      | fail)
    refine bodyPost_ret (results_valAnd rfl _ _ (w.heap.size + 1) _ rfl H5.out.1 rfl) rfl ?_
    rw [Hq.out]
    exact get_end Hal.out H5.out.2
  · have d1 : decide ((n : Int) > 256) = false := by simp; omega
    have d2 : decide ((256 : Int) < n) = false := by simp; omega
    cases hg : K.goodC c with
    | false =>
      have Hq := Lib.hid (show q = (v0, 1) by rw [hq]; unfold resG; rw [hg]; simp)
      have hgw := Hgood.out
      rw [hg] at hgw
      have Hgw := Lib.hid hgw
      clear hq hn256 hgw hg
      go_enter Try.func15, Try.ntmps15
      go_upto_region 1 with fail
      rw [← hW2]
      clear hW2
      go_wp2_with (first
        | (refine K.wpList_load_node_want rfl _ rfl w.heap.size 0 _ rfl Hc7.out ?_)
        | (go_at_call 44; refine Hgw.out.mono ?_; rintro e w3 ⟨rfl, hb3⟩; have Hb3 := Lib.hid hb3; have Hz3 := Lib.hid (val_later hb3 Hz.out); clear hb3)
        | (refine wpList_store_val rfl _ _ rfl (w.heap.size + 1) _ #[.int .i64 0, .int .u8 0, .slice none 0 0] rfl rfl Hz3.out rfl rfl (by simp [Value.oneCell']) ?_; intro w5 hn5 ho5; have H5 := Lib.hid (And.intro hn5 ho5); clear hn5 ho5)
        | fail)
      refine bodyPost_ret (results_valAnd rfl _ _ (w.heap.size + 1) _ rfl H5.out.1 rfl) rfl ?_
      rw [Hq.out]
      exact get_end (Hal.out.trans (Hb3.out.mono Hal.out.size)) H5.out.2
    | true =>
      have hqr : q = match getV c (nats t) s with
        | none => (v0, 7)
        | some v => (v, 0) := by
        rw [hq]; unfold resG
        rw [decide_eq_false (by rw [← HN.out]; exact hn256), hg]; rfl
      have hgw := Hgood.out
      rw [hg] at hgw
      have Hgw := Lib.hid hgw
      have Hgc := Lib.hid hg
      have Hn256 := Lib.hid (show s.length ≤ 256 by have := HN.out; omega)
      have Hqr := Lib.hid hqr
      clear hq hn256 hgw hg hqr
      go_enter Try.func15, Try.ntmps15
      go_upto_region 1 with fail
      rw [← hW2]
      clear hW2
      go_upto_region 3 with (first
        | (refine K.wpList_load_node_want rfl _ rfl w.heap.size 0 _ rfl Hc7.out ?_)
        | (go_at_call 44; refine Hgw.out.mono ?_; rintro e w3 ⟨rfl, hb3⟩; have Hb3 := Lib.hid hb3; clear hb3)
        | fail)
      obtain ⟨W5, hW5⟩ : ∃ W5, W5 = w3.alloc (.cells #[.string t, .slice a n cap] 72) := ⟨_, rfl⟩
      have hal5 : Below w3.heap.size w3 W5 := by rw [hW5]; exact K.alloc_below _ _
      have hat3 := K.Cr.at_below Hb3.out (Nat.le_refl _) _ _ Hat.out
      have hrd : RdB w3 W5 w3.heap.size t s := ⟨a, cap, by rw [hW5, ← HN.out]; exact World.alloc_heap_new w3 _, by rw [← HN.out]; exact bytes_keep Hby.out Hb3.out, Nat.le_refl _, Hn256.out, ht⟩
      have hcore := value_any (R := w3.heap.size) c.count c (Nat.le_refl _) Hgc.out _ hat3 t s W5 hal5 hrd
      have hz5 : ValIn W5 (w.heap.size + 1) #[.int .i64 0, .int .u8 0, .slice none 0 0] := val_later hal5 (val_later Hb3.out Hz.out)
      have hc75 : K.Core7 W5 w.heap.size 0 [.int .i64 kc, .int .u64 (word sc 0), .int .u64 (word sc 1), .int .u64 (word sc 2), .int .u64 (word sc 3), .int .i64 nc, .slice ac lenc capc] := core7_below (core7_below Hc7.out (by have := Hs2.out; omega) Hb3.out) (by have := Hs2.out; have := Hb3.out.size; omega) hal5
      have hsz5 : W5.heap.size = w3.heap.size + 1 := by rw [hW5]; simp
      have hsz3 : w.heap.size + 1 < w3.heap.size := by have := Hs2.out; have := Hb3.out.size; omega
      have hb5 : Below w.heap.size w W5 := (Hal.out.trans (Hb3.out.mono Hal.out.size)).trans (hal5.mono (by omega))
      have H5 := Lib.hid (And.intro hz5 (And.intro hc75 (And.intro hsz5 (And.intro hsz3 hb5))))
      have Hcore := Lib.hid hcore
      clear hal5 hat3 hrd hcore hz5 hc75 hsz5 hsz3 hb5
      go_upto_region 4 with fail
      rw [← hW5]
      clear hW5
      go_wp2_with (first
        | (refine K.wpList_load_core rfl _ rfl w.heap.size 0 _ rfl H5.out.2.1 ?_)
        | fail)
      obtain ⟨r, hr⟩ : ∃ r, got c (nats t) s = r := ⟨_, rfl⟩
      have hcore := Hcore.out
      rw [hr] at hcore
      have hqr := Hqr.out
      unfold getV at hqr
      rw [hr] at hqr
      clear hr Hcore
      have Hcore := Lib.hid hcore
      clear hcore
      cases r with
      | none =>
        have Hq := Lib.hid (show q = (v0, 7) from hqr)
        clear hqr
        refine Hcore.out.mono ?_
        clear Hcore
        rintro e w6 ⟨kx, zx, ax, lenx, capx, t6, s6, rfl, hr6, hk6, _⟩
        obtain ⟨hz5, _, hsz5, hsz3, hb5⟩ := H5.out
        have hz6 : ValIn w6 (w.heap.size + 1) #[.int .i64 0, .int .u8 0, .slice none 0 0] := hk6.val hz5 (by omega) (by omega)
        have hz7 : ∀ o, ValIn (w6.alloc o) (w.heap.size + 1) #[.int .i64 0, .int .u8 0, .slice none 0 0] := fun o => val_later (K.alloc_below w6 o) hz6
        have hb6 : Below w.heap.size w w6 := hk6.below hb5 (by omega) (by omega) (by omega)
        have Hz7 := Lib.hid hz7
        have Hb6 := Lib.hid hb6
        clear hz5 hsz5 hsz3 hb5 hz6 hz7 hb6 hr6 hk6
        go_wp2_with (first
          | (refine wpList_store_val rfl _ _ rfl (w.heap.size + 1) _ #[.int .i64 0, .int .u8 0, .slice none 0 0] rfl rfl (Hz7.out _) rfl rfl (by simp [Value.oneCell']) ?_; intro w8 hn8 ho8; have H8 := Lib.hid (And.intro hn8 ho8); clear hn8 ho8)
          | fail)
        refine bodyPost_ret (results_valAnd rfl _ _ (w.heap.size + 1) _ rfl H8.out.1 rfl) rfl ?_
        rw [Hq.out]
        exact get_end (Hb6.out.trans ((K.alloc_below w6 _).mono Hb6.out.size)) H8.out.2
      | some p =>
        obtain ⟨vx, b2, s2⟩ := p
        refine Hcore.out.mono ?_
        clear Hcore
        rintro e w6 ⟨kx, zx, ax, lenx, capx, t6, s6, rfl, hr6, hk6, hv6⟩
        obtain ⟨hx6, rfl, rfl⟩ := hv6 _ _ _ rfl
        obtain ⟨hz5, _, hsz5, hsz3, hb5⟩ := H5.out
        obtain ⟨w7, hw7⟩ : ∃ w7, w7 = w6.alloc (.cells #[.int .i64 kx, .int .u8 zx, .slice ax lenx capx] 35) := ⟨_, rfl⟩
        have hal7 : Below w6.heap.size w6 w7 := by rw [hw7]; exact K.alloc_below _ _
        have hx7 : ValIn w7 w6.heap.size #[.int .i64 kx, .int .u8 zx, .slice ax lenx capx] := by rw [hw7]; exact World.alloc_heap_new w6 _
        have hz7 : ValIn w7 (w.heap.size + 1) #[.int .i64 0, .int .u8 0, .slice none 0 0] := val_later hal7 (hk6.val hz5 (by omega) (by omega))
        have hb7 : Below w.heap.size w w7 := (hk6.below hb5 (by omega) (by omega) (by omega)).trans (hal7.mono (by have := hk6.size; omega))
        have hr7 := hr6.later hal7
        obtain ⟨ab, capb, r7, _, _, _, htz⟩ := id hr7
        obtain ⟨q0, q1, _⟩ := rdb_cells r7
        obtain ⟨l6, hl6⟩ : ∃ l6, l6 = s6.length := ⟨_, rfl⟩
        rw [← hl6] at q1
        have hxv := hx6.below hal7
        have Hx7 := Lib.hid (val3_in (cs := [.int .i64 kx, .int .u8 zx, .slice ax lenx capx]) hx7 rfl)
        have H7 := Lib.hid (And.intro hz7 (And.intro hb7 (And.intro hxv (And.intro hsz5 hsz3))))
        have Hqr := Lib.hid hqr
        have HL6 := Lib.hid hl6
        clear hz5 hsz5 hsz3 hb5 hal7 hx7 hz7 hb7 hr7 r7 hr6 hk6 hv6 hx6 hxv hqr hl6
        go_upto_region 5 with fail
        rw [← hw7]
        clear hw7
        by_cases h0 : t6.size = 0
        · have e1 : decide ((t6.size : Int) > 0) = false := by simp [h0]
          have e2 : decide ((0 : Int) < t6.size) = false := by simp [h0]
          have e3 : decide (0 < t6.size) = false := by simp [h0]
          by_cases h6 : l6 = 0
          · have Hq := Lib.hid (show q = (vx, 0) by
              have e1 : nats t6 = [] := List.length_eq_zero_iff.1 (by rw [nats_length]; exact h0)
              have e2 : s6 = [] := List.length_eq_zero_iff.1 (by rw [← HL6.out]; exact h6)
              rw [Hqr.out, e1, e2])
            subst h6
            go_wp2_with (first
              | (refine wpList_load_val rfl _ rfl w6.heap.size 0 _ rfl Hx7.out ?_)
              | (refine wpList_store_val rfl _ _ rfl (w.heap.size + 1) _ #[.int .i64 kx, .int .u8 zx, .slice ax lenx capx] rfl rfl H7.out.1 rfl rfl (by simp [Value.oneCell']) ?_; intro w8 hn8 ho8; have H8 := Lib.hid (And.intro hn8 ho8); clear hn8 ho8)
              | fail)
            refine bodyPost_ret (results_valAnd rfl _ _ (w.heap.size + 1) _ rfl H8.out.1 rfl) rfl ?_
            rw [Hq.out]
            obtain ⟨_, hb7, hxv, hsz5, hsz3⟩ := H7.out
            refine ⟨kx, zx, ax, lenx, capx, rfl, hxv.mono (Nat.le_of_eq H8.out.2.size.symm) fun b hb _ => ?_, H8.out.2.below hb7 (by omega)⟩
            have hb := of_decide_eq_true hb
            exact ⟨decide_eq_true (by omega), H8.out.2.block b (by omega)⟩
          · have f1 : decide ((l6 : Int) > 0) = true := by simp; omega
            have f2 : decide ((0 : Int) < l6) = true := by simp; omega
            have f3 : decide (0 < l6) = true := by simp; omega
            have Hq := Lib.hid (show q = (v0, 7) by
              have e2 : s6 ≠ [] := fun e => by have := HL6.out; rw [e] at this; exact h6 this
              obtain ⟨b, s', e3⟩ := List.exists_cons_of_ne_nil e2
              rw [Hqr.out, e3]
              cases nats t6 <;> rfl)
            clear h6
            go_wp2_with (first
              | (refine wpList_load_val rfl _ rfl w6.heap.size 0 _ rfl Hx7.out ?_)
              | (refine wpList_store_val rfl _ _ rfl (w.heap.size + 1) _ #[.int .i64 0, .int .u8 0, .slice none 0 0] rfl rfl H7.out.1 rfl rfl (by simp [Value.oneCell']) ?_; intro w8 hn8 ho8; have H8 := Lib.hid (And.intro hn8 ho8); clear hn8 ho8)
              | fail)
            refine bodyPost_ret (results_valAnd rfl _ _ (w.heap.size + 1) _ rfl H8.out.1 rfl) rfl ?_
            rw [Hq.out]
            exact get_end H7.out.2.1 H8.out.2
        · have e1 : decide ((t6.size : Int) > 0) = true := by simp; omega
          have e2 : decide ((0 : Int) < t6.size) = true := by simp; omega
          have e3 : decide (0 < t6.size) = true := by simp; omega
          have Hq := Lib.hid (show q = (v0, 7) by
            have e2 : nats t6 ≠ [] := fun e => h0 (by rw [← nats_length, e]; rfl)
            obtain ⟨b, s', e3⟩ := List.exists_cons_of_ne_nil e2
            rw [Hqr.out, e3])
          clear h0
          go_wp2_with (first
            | (refine wpList_load_val rfl _ rfl w6.heap.size 0 _ rfl Hx7.out ?_)
            | (refine wpList_store_val rfl _ _ rfl (w.heap.size + 1) _ #[.int .i64 0, .int .u8 0, .slice none 0 0] rfl rfl H7.out.1 rfl rfl (by simp [Value.oneCell']) ?_; intro w8 hn8 ho8; have H8 := Lib.hid (And.intro hn8 ho8); clear hn8 ho8)
            | fail)
          refine bodyPost_ret (results_valAnd rfl _ _ (w.heap.size + 1) _ rfl H8.out.1 rfl) rfl ?_
          rw [Hq.out]
          exact get_end H7.out.2.1 H8.out.2
end V
end Go.Proofs.Ytklmomgccmekkaa
