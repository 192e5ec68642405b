/- Closed regions of any order: what is known of each slot (a bool, a number, a core, a value, a list of values, bytes, a text), kept in all later worlds. -/
import Derived.Test.YtklmomgccmekkaaAnyGuard
import Derived.Deep.DeepCutAuto
import Derived.Test.YtklmomgccmekkaaWords
import Derived.Test.YtklmomgccmekkaaValGood
import Derived.Test.YtklmomgccmekkaaValText
import Derived.Test.YtklmomgccmekkaaValOps
import Derived.Test.YtklmomgccmekkaaEq
namespace Go.Proofs.Ytklmomgccmekkaa
namespace V
set_option maxRecDepth 100000
open Go.RowKit
/-- of each member of a list in its place -/
def AllG {α : Type} (P : Nat → α → Prop) : Nat → List α → Prop
  | _, [] => True
  | k, x :: xs => P k x ∧ AllG P (k + 1) xs
theorem AllG.nil {α : Type} {P : Nat → α → Prop} {k : Nat} : AllG P k [] := trivial
theorem AllG.cons {α : Type} {P : Nat → α → Prop} {k k' : Nat} {x : α} {xs : List α} (e : k + 1 = k') (h : P k x) (h2 : AllG P k' xs) : AllG P k (x :: xs) := by
  subst e; exact ⟨h, h2⟩
theorem AllG.get {α : Type} {P : Nat → α → Prop} : ∀ (L : List α) (k : Nat), AllG P k L → ∀ (i : Nat) (o : α), L[i]? = some o → P (k + i) o
  | [], _, _, i, o, h => by cases h
  | x :: xs, k, h, 0, o, ho => by cases ho; exact h.1
  | x :: xs, k, h, i + 1, o, ho => by
    have h1 := AllG.get xs (k + 1) h.2 i o (by simpa using ho)
    rw [Nat.add_assoc, Nat.add_comm 1 i] at h1
    exact h1
theorem AllG.get0 {α : Type} {P : Nat → α → Prop} {L : List α} (h : AllG P 0 L) (i : Nat) (o : α) (ho : L.toArray[i]? = some o) : P i o := by
  have h1 := AllG.get L 0 h i o (by simpa using ho)
  rwa [Nat.zero_add] at h1
/-! what is known of a slot -/
abbrev Fact := Value → World → Prop
def Stable (P : Fact) : Prop := ∀ v w w', P v w → KeepsC w w' → P v w'
def isEq (u : Value) : Fact := fun v _ => v = u
def isCore (X : K.Cr) : Fact := fun v w => ∃ zs : List Value, v = .agg zs.toArray ∧ K.Cr.at w X zs
def isVal (X : Vl) : Fact := fun v w => ∃ zs : List Value, v = .agg zs.toArray ∧ Vl.at w X zs
def isVals (L : List Vl) : Fact := fun v w => ListAt w L v
/-- bytes of a literal, in a block of the region's own -/
def isLit (B0 : Nat) (l : List Nat) : Fact := fun v w => ∃ (b : Nat) (cs : Array Value) (f : Nat × Nat), v = .slice (some ⟨b, 0, none⟩) l.length l.length ∧ w.heap[b]? = some (.cells cs 5 f) ∧ BytesAt w (some ⟨b, 0, none⟩) l.length l.length l ∧ B0 ≤ b
def isBytes (l : List Nat) : Fact := fun v w => ∃ (p : Option Addr) (c : Nat), v = .slice p l.length c ∧ BytesAt w p l.length c l
def isText (l : List Nat) : Fact := fun v _ => ∃ t : ByteArray, v = .string t ∧ nats t = l
theorem bytes_keepsC {w w' : World} {a : Option Addr} {n cap : Nat} {l : List Nat} (h : BytesAt w a n cap l) (hk : KeepsC w w') : BytesAt w' a n cap l := by
  obtain ⟨h1, h2, h3, h4⟩ := h
  refine ⟨h1, h2, h3, ?_⟩
  rcases h4 with h4 | ⟨b, off, e, e2, e3, e4⟩
  · exact .inl h4
  · exact .inr ⟨b, off, e, e2, Nat.lt_of_lt_of_le e3 hk.1, fun j hj => hk.cell (e4 j hj)⟩
theorem isEq.stable (u : Value) : Stable (isEq u) := fun _ _ _ h _ => h
theorem isText.stable (l : List Nat) : Stable (isText l) := fun _ _ _ h _ => h
theorem isLit.stable (B0 : Nat) (l : List Nat) : Stable (isLit B0 l) := by
  rintro v w w' ⟨b, cs, f, h1, h2, h3, h4⟩ hk
  obtain ⟨f', hf⟩ := hk.2 _ _ _ _ h2
  exact ⟨b, cs, f', h1, hf, bytes_keepsC h3 hk, h4⟩
theorem isBytes.stable (l : List Nat) : Stable (isBytes l) := by
  rintro v w w' ⟨p, c, h1, h2⟩ hk
  exact ⟨p, c, h1, bytes_keepsC h2 hk⟩
theorem isCore.stable (X : K.Cr) : Stable (isCore X) := by
  rintro v w w' ⟨zs, h1, h2⟩ hk
  exact ⟨zs, h1, K.Cr.at_same (fun _ _ h => hk.cell h) hk.1 _ _ h2⟩
mutual
theorem Vl.at_same {w w' : World} (h : ∀ p v, w.cell? p = some v → w'.cell? p = some v) (hs : w.heap.size ≤ w'.heap.size) : ∀ (x : Vl) (cs : List Value), Vl.at w x cs → Vl.at w' x cs
  | .mk k z l, cs, ha => by
    rw [at_mk] at ha ⊢
    obtain ⟨h1, h4, a, cap, h5, h6, h7⟩ := ha
    refine ⟨h1, h4, a, cap, h5, h6, ?_⟩
    rcases h7 with h7 | ⟨b, off, e1, e2, e3, e4⟩
    · exact .inl h7
    · exact .inr ⟨b, off, e1, e2, Nat.lt_of_lt_of_le e3 hs, valsAt_same h hs l b off e4⟩
theorem valsAt_same {w w' : World} (h : ∀ p v, w.cell? p = some v → w'.cell? p = some v) (hs : w.heap.size ≤ w'.heap.size) : ∀ (l : List Vl) (b off : Nat), valsAt w l b off → valsAt w' l b off
  | [], b, off, _ => by rw [valsAt_nil]; trivial
  | x :: l, b, off, ha => by
    rw [valsAt_cons] at ha ⊢
    obtain ⟨⟨cs, h1, h2, h3⟩, h4⟩ := ha
    refine ⟨⟨cs, h1, fun q hq => ?_, Vl.at_same h hs x cs h3⟩, valsAt_same h hs l b (off + 3) h4⟩
    have h5 := h2 q hq
    rw [List.getElem?_eq_getElem (by omega)] at h5 ⊢
    exact h _ _ h5
end
theorem isVal.stable (X : Vl) : Stable (isVal X) := by
  rintro v w w' ⟨zs, h1, h2⟩ hk
  exact ⟨zs, h1, Vl.at_same (fun _ _ h => hk.cell h) hk.1 _ _ h2⟩
theorem isVals.stable (L : List Vl) : Stable (isVals L) := by
  rintro v w w' ⟨a, cap, h1, h2, h3⟩ hk
  refine ⟨a, cap, h1, h2, ?_⟩
  rcases h3 with h3 | ⟨b, off, e1, e2, e3, e4⟩
  · exact .inl h3
  · exact .inr ⟨b, off, e1, e2, Nat.lt_of_lt_of_le e3 hk.1, valsAt_same (fun _ _ h => hk.cell h) hk.1 _ _ _ e4⟩
def factAt (L : List Fact) (i : Nat) : Fact := fun v w => ∃ P, L[i]? = some P ∧ P v w
theorem factAt_stable {L : List Fact} (h : AllG (fun _ P => Stable P) 0 L) (i : Nat) (v : Value) (w w' : World) (hf : factAt L i v w) (hk : KeepsC w w') : factAt L i v w' := by
  obtain ⟨P, h1, h2⟩ := hf
  have h3 := AllG.get L 0 h i P h1
  exact ⟨P, h1, h3 v w w' h2 hk⟩
theorem fact_get {L : List Fact} {i : Nat} {P : Fact} {v : Value} {w : World} (hi : L[i]? = some P) (h : factAt L i v w) : P v w := by
  obtain ⟨P', h1, h2⟩ := h
  rw [hi] at h1
  injection h1 with h1
  subst h1
  exact h2
theorem fact_put {L : List Fact} {i : Nat} {P : Fact} {v : Value} {w : World} (hi : L[i]? = some P) (h : P v w) : factAt L i v w := ⟨P, hi, h⟩
/-! steps -/
theorem eval_tmp {a : Act} {k : Nat} {v : Value} (h : a.tmps[k]? = some v) : a.eval (.tmp k) = v := by
  simp [Act.eval, h]
theorem conv_any (b n c : Nat) (cs : Array Value) (t : TypeId) (f : Nat × Nat) (w : World) (hb : w.heap[b]? = some (.cells cs t f)) : (convert 39 39 (.slice (some ⟨b, 0, none⟩) n c)).run Try.prog w = .ok (.slice (some ⟨b, 0, none⟩) n c) (w.freeze ⟨b, cs.size, none⟩ 1) := by
  have hs : w.shape? b = some (t, cs.size) := by simp [World.shape?, hb]
  simp [convert, run_underlying Try.underlying39, run_underlying Try.underlying5, markStringish, hs]
theorem wp_load_coreK {o : Oper} {a : Act} {w : World} {KK : Act → World → Prop} {Q : Exit → Act → World → Prop} (x : Operand) (ho : o.op = .load 28 x) (b off : Nat) (cs : List Value) (hx : a.eval x = .pointer (some ⟨b, off, none⟩)) (hc : K.Core7 w b off cs)
    (hK : KK (a.put o.dst (.agg cs.toArray)) w) : o.wp Try.prog a w KK Q := by
  unfold Oper.wp execOp
  simp only [ho, hx, Instr.loadAt, Instr.sureAddr, Sem.run_bind, Sem.run_pure, Result.andThen_ok, K.loadCore hc]
  exact hK
theorem wp_load_valK {o : Oper} {a : Act} {w : World} {KK : Act → World → Prop} {Q : Exit → Act → World → Prop} (x : Operand) (ho : o.op = .load 35 x) (b off : Nat) (cs : List Value) (hx : a.eval x = .pointer (some ⟨b, off, none⟩)) (hc : Val3 w b off cs)
    (hK : KK (a.put o.dst (.agg cs.toArray)) w) : o.wp Try.prog a w KK Q := by
  unfold Oper.wp execOp
  simp only [ho, hx, Instr.loadAt, Instr.sureAddr, Sem.run_bind, Sem.run_pure, Result.andThen_ok, loadVal hc]
  exact hK
theorem vals_lit (w : World) (L : List (Vl × List Value)) (hL : ∀ p ∈ L, Vl.at w p.1 p.2) (cs : Array Value) (hc : cs.toList = L.flatMap (·.2)) (hn : L.length ≤ maxLen) : ListAt (w.alloc (.cells cs 35)) (L.map (·.1)) (.slice (some ⟨w.heap.size, 0, none⟩) L.length L.length) := by
  refine ⟨_, _, by rw [List.length_map], by rw [List.length_map]; exact hn, .inr ⟨w.heap.size, 0, rfl, by rw [List.length_map]; exact Nat.le_refl _, by simp, valsAt_cells L 0 (fun p hp => Vl.at_below (K.alloc_below w _) (Nat.le_refl _) _ _ (hL p hp)) fun q _ => ?_⟩⟩
  rw [Nat.zero_add, cells_at (World.alloc_heap_new w _), ← Array.getElem?_toList, hc]
theorem at_of_list {w : World} {L : List Vl} {u : Value} (h : ListAt w L u) {k : Int} {z : Nat} (hk : fits64 k) (hz : z < 256) : Vl.at w (.mk k z L) [.int .i64 k, .int .u8 z, u] := by
  obtain ⟨a, cap, rfl, h1, h2⟩ := h
  rw [at_mk]
  exact ⟨hk, hz, a, cap, rfl, h1, h2⟩
theorem at_zeroC (W : World) (k : Int) (hk : fits64 k) : K.Cr.at W (.mk k 0 0 []) [.int .i64 k, .int .u64 0, .int .u64 0, .int .u64 0, .int .u64 0, .int .i64 0, .slice none 0 0] := by
  have h := K.at_plain (W := W) (k := k) (n := 0) 0 hk rfl
  rw [show word 0 0 = 0 from word_zero 0, show word 0 1 = 0 from word_zero 1, show word 0 2 = 0 from word_zero 2, show word 0 3 = 0 from word_zero 3] at h
  exact h
/-! the calls, with what they tell -/
theorem good_eq {c : K.Cr} {v : Vl} {cs ds : List Value} {w : World} {b : Bool} (hc : K.Cr.at w c cs) (hv : Vl.at w v ds) (h : goodV c v = b) :
    Calls Try.prog 36 #[.agg cs.toArray, .agg ds.toArray] w fun e w' => e = .returned (.bool b) ∧ Below w.heap.size w w' := by subst h; exact good_any hc hv
theorem size_eq {v : Vl} {ds : List Value} {w : World} {n : Nat} (hv : Vl.at w v ds) (h : v.size = n ∧ v.count < 1000) :
    Calls Try.prog 41 #[.agg ds.toArray] w fun e w' => e = .returned (.int .i64 n) ∧ Below w.heap.size w w' := by
  obtain ⟨h, h2⟩ := h
  subst h; exact size_any _ v ds w (Nat.le_refl _) (by omega) hv
theorem text_eq {v : Vl} {ds : List Value} {w : World} {l : List Nat} (hv : Vl.at w v ds) (h : v.txt = l ∧ v.count < 1000) :
    Calls Try.prog 19 #[.agg ds.toArray] w (TextIs w l) := by
  obtain ⟨h, h2⟩ := h
  subst h
  exact text_walk hv (by have := txt_le v; unfold most; omega)
theorem flat_eq {v : Vl} {ds : List Value} {w : World} {l : List Nat} (hv : Vl.at w v ds) (h : v.flat = l ∧ v.count < 1000) :
    Calls Try.prog 29 #[.agg ds.toArray] w fun e w' => ∃ p c, e = .returned (.slice p l.length c) ∧ BytesAt w' p l.length c l ∧ Below w.heap.size w w' := by
  obtain ⟨h, h2⟩ := h
  have hlt := flat_lt v (at_okB v ds hv)
  subst h
  refine (flat_any v ds w hv (by have := flat_le v; omega)).mono ?_
  rintro e w' ⟨v', ys, rfl, hys, ho, hb⟩
  have hys := hys.out
  subst hys
  obtain ⟨a, c, rfl⟩ := owns_form ho
  exact ⟨a, c, rfl, bytesAt_of_owns ho hlt (Below.refl _ _), hb⟩
theorem ch_eq {a : Option Addr} {n cap : Nat} {l : List Nat} {w : World} (hl : BytesAt w a n cap l) {s : BitVec 256} (hs : setOf l = s) : Calls Try.prog 12 #[.slice a n cap] w (K.CoreNew (.mk 2 s 0 []) w) := by
  subst hs; exact K.ch_walk hl
set_option maxHeartbeats 4000000 in
theorem two_walk (a b : Nat) (ha : a < 256) (hb : b < 256) (w : World) : Calls Try.prog 55 #[.int .u8 a, .int .u8 b] w fun e w' => ∃ zs, e = .returned (.agg zs.toArray) ∧ Vl.at w' (.mk 3 0 [.mk 2 a [], .mk 2 b []]) zs ∧ Below w.heap.size w w' := by
  obtain ⟨W, hW⟩ : ∃ W, W = w.alloc (.cells #[.int .i64 0, .int .u8 0, .slice none 0 0] 35) := ⟨_, rfl⟩
  have hbW : Below w.heap.size w W := by rw [hW]; exact K.alloc_below w _
  have hres : ValIn W w.heap.size #[.int .i64 0, .int .u8 0, .slice none 0 0] := by rw [hW]; exact World.alloc_heap_new w _
  obtain ⟨W2, hW2⟩ : ∃ W2, W2 = W.alloc (.cells #[.int .i64 2, .int .u8 a, .slice none 0 0, .int .i64 2, .int .u8 b, .slice none 0 0] 35) := ⟨_, rfl⟩
  have hb2 : Below W.heap.size W W2 := by rw [hW2]; exact K.alloc_below W _
  have hres2 := val_later hb2 hres
  have hfin : ∀ w', Only w.heap.size W2 w' → Vl.at w' (.mk 3 0 [.mk 2 a [], .mk 2 b []]) [.int .i64 3, .int .u8 0, .slice (some ⟨W.heap.size, 0, none⟩) 2 2] := fun w' ho => by
    have hrow : W2.heap[W.heap.size]? = some (.cells #[.int .i64 2, .int .u8 a, .slice none 0 0, .int .i64 2, .int .u8 b, .slice none 0 0] 35) := by rw [hW2]; exact World.alloc_heap_new W _
    have hlt : w.heap.size < W.heap.size := by rw [hW]; simp
    have hbk : w'.heap[W.heap.size]? = _ := (ho.block _ (by omega)).trans hrow
    exact at_made (W := w') (b := W.heap.size) (k := 3) (z := 0) rfl (by decide) [(.mk 2 a [], [.int .i64 2, .int .u8 a, .slice none 0 0]), (.mk 2 b [], [.int .i64 2, .int .u8 b, .slice none 0 0])] (by show 2 ≤ maxLen; decide) (by
      intro p hp
      simp only [List.mem_cons, List.not_mem_nil, or_false] at hp
      rcases hp with rfl | rfl
      · exact at_plain rfl ha
      · exact at_plain rfl hb) hbk
  have Hfin := Lib.hid hfin
  have Hres := Lib.hid hres2
  have HbW := Lib.hid (hbW.trans (hb2.mono hbW.size))
  clear hfin hres hres2 hbW hb2
  go_enter Try.func55, Try.ntmps55
  go_upto_region 1 with fail
  rw [← hW]
  clear hW
  have hW2' : W.alloc (.cells #[.int .i64 2, .int .u8 a, .slice none 0 0, .int .i64 2, .int .u8 b, .slice none 0 0] 35) = W2 := hW2.symm
  have HW2 := Lib.hid hW2'
  clear hW2 hW2'
  go_wp2_with (first
    | (rw [HW2.out]; refine wpList_store_val rfl _ _ rfl w.heap.size _ #[.int .i64 3, .int .u8 0, .slice (some ⟨W.heap.size, 0, none⟩) 2 2] rfl rfl Hres.out rfl rfl (by simp [Value.oneCell']) ?_; intro wz hsz hoz; have Hsz := Lib.hid hsz; have Hoz := Lib.hid hoz; clear hsz hoz; simp only [Act.put])
    | fail)
  exact bodyPost_ret (results_val rfl _ _ w.heap.size _ rfl Hsz.out rfl) rfl ⟨[.int .i64 3, .int .u8 0, .slice (some ⟨W.heap.size, 0, none⟩) 2 2], rfl, Hfin.out _ Hoz.out, Hoz.out.below HbW.out (Nat.le_refl _)⟩
theorem full_eq {c : K.Cr} {v : Vl} {cs ds : List Value} {w : World} {b : Bool} (hc : K.Cr.at w c cs) (hv : Vl.at w v ds) (h : fullV c v = b) :
    Calls Try.prog 28 #[.agg cs.toArray, .agg ds.toArray] w fun e w' => e = .returned (.bool b) ∧ Below w.heap.size w w' := by subst h; exact full_any hc hv
theorem same_eq {x y : Vl} {cs ds : List Value} {w : World} {b : Bool} (hx : Vl.at w x cs) (hy : Vl.at w y ds) (h : x.same y = b) :
    Calls Try.prog 30 #[.agg cs.toArray, .agg ds.toArray] w fun e w' => e = .returned (.bool b) ∧ Below w.heap.size w w' := by subst h; exact same_any _ x y cs ds w (Nat.le_refl _) hx hy
theorem len_eq {v : Vl} {ds : List Value} {w : World} {n : Int} (hv : Vl.at w v ds) (h : v.meas.1 = n) :
    Calls Try.prog 27 #[.agg ds.toArray] w fun e w' => e = .returned (.int .i64 n) ∧ Below w.heap.size w w' := by subst h; exact len_any v ds w hv
end V
end Go.Proofs.Ytklmomgccmekkaa
