/- Closed regions of any order: what is known of each slot (a bool, a number, a core, a value, a list of values, bytes, a text), kept in all later worlds. -/
import Derived.Test.YtblgjcolmaidlaaAnyGuard
import Derived.Deep.DeepCutAuto
import Derived.Test.YtblgjcolmaidlaaText
import Derived.Test.YtblgjcolmaidlaaValOps
import Derived.Test.YtblgjcolmaidlaaEq
namespace Go.Proofs.Ytblgjcolmaidlaa
namespace V
set_option maxRecDepth 100000
open Go.RowKit
/-- of each member of a list in its place -/
def AllG {α : Type} (P : Nat → α → Prop) : Nat → List α → Prop
  | _, [] => True
  | k, x :: xs => P k x ∧ AllG P (k + 1) xs
theorem AllG.nil {α : Type} {P : Nat → α → Prop} {k : Nat} : AllG P k [] := trivial
theorem AllG.cons {α : Type} {P : Nat → α → Prop} {k k' : Nat} {x : α} {xs : List α} (e : k + 1 = k') (h : P k x) (h2 : AllG P k' xs) : AllG P k (x :: xs) := by
  subst e; exact ⟨h, h2⟩
theorem AllG.get {α : Type} {P : Nat → α → Prop} : ∀ (L : List α) (k : Nat), AllG P k L → ∀ (i : Nat) (o : α), L[i]? = some o → P (k + i) o
  | [], _, _, i, o, h => by cases h
  | x :: xs, k, h, 0, o, ho => by cases ho; exact h.1
  | x :: xs, k, h, i + 1, o, ho => by
    have h1 := AllG.get xs (k + 1) h.2 i o (by simpa using ho)
    rw [Nat.add_assoc, Nat.add_comm 1 i] at h1
    exact h1
theorem AllG.get0 {α : Type} {P : Nat → α → Prop} {L : List α} (h : AllG P 0 L) (i : Nat) (o : α) (ho : L.toArray[i]? = some o) : P i o := by
  have h1 := AllG.get L 0 h i o (by simpa using ho)
  rwa [Nat.zero_add] at h1
/-! what is known of a slot -/
abbrev Fact := Value → World → Prop
def Stable (P : Fact) : Prop := ∀ v w w', P v w → KeepsC w w' → P v w'
def isEq (u : Value) : Fact := fun v _ => v = u
def isCore (X : K.Cr) : Fact := fun v w => ∃ zs : List Value, v = .agg zs.toArray ∧ K.Cr.at w X zs
def isVal (X : Vl) : Fact := fun v w => ∃ zs : List Value, v = .agg zs.toArray ∧ Vl.at w X zs
def isVals (L : List Vl) : Fact := fun v w => ListAt w L v
/-- bytes of a literal, in a block of the region's own -/
def isLit (B0 : Nat) (l : List Nat) : Fact := fun v w => ∃ (b : Nat) (cs : Array Value) (f : Nat × Nat), v = .slice (some ⟨b, 0, none⟩) l.length l.length ∧ w.heap[b]? = some (.cells cs 5 f) ∧ BytesAt w (some ⟨b, 0, none⟩) l.length l.length l ∧ B0 ≤ b
def isBytes (l : List Nat) : Fact := fun v w => ∃ (p : Option Addr) (c : Nat), v = .slice p l.length c ∧ BytesAt w p l.length c l
theorem bytes_keepsC {w w' : World} {a : Option Addr} {n cap : Nat} {l : List Nat} (h : BytesAt w a n cap l) (hk : KeepsC w w') : BytesAt w' a n cap l := by
  obtain ⟨h1, h2, h3, h4⟩ := h
  refine ⟨h1, h2, h3, ?_⟩
  rcases h4 with h4 | ⟨b, off, e, e2, e3, e4⟩
  · exact .inl h4
  · exact .inr ⟨b, off, e, e2, Nat.lt_of_lt_of_le e3 hk.1, fun j hj => hk.cell (e4 j hj)⟩
theorem isEq.stable (u : Value) : Stable (isEq u) := fun _ _ _ h _ => h
theorem isLit.stable (B0 : Nat) (l : List Nat) : Stable (isLit B0 l) := by
  rintro v w w' ⟨b, cs, f, h1, h2, h3, h4⟩ hk
  obtain ⟨f', hf⟩ := hk.2 _ _ _ _ h2
  exact ⟨b, cs, f', h1, hf, bytes_keepsC h3 hk, h4⟩
theorem isBytes.stable (l : List Nat) : Stable (isBytes l) := by
  rintro v w w' ⟨p, c, h1, h2⟩ hk
  exact ⟨p, c, h1, bytes_keepsC h2 hk⟩
theorem isCore.stable (X : K.Cr) : Stable (isCore X) := by
  rintro v w w' ⟨zs, h1, h2⟩ hk
  exact ⟨zs, h1, K.Cr.at_same (fun _ _ h => hk.cell h) hk.1 _ _ h2⟩
mutual
theorem Vl.at_same {w w' : World} (h : ∀ p v, w.cell? p = some v → w'.cell? p = some v) (hs : w.heap.size ≤ w'.heap.size) : ∀ (x : Vl) (cs : List Value), Vl.at w x cs → Vl.at w' x cs
  | .mk k z l, cs, ha => by
    rw [at_mk] at ha ⊢
    obtain ⟨h1, h4, a, cap, h5, h6, h7⟩ := ha
    refine ⟨h1, h4, a, cap, h5, h6, ?_⟩
    rcases h7 with h7 | ⟨b, off, e1, e2, e3, e4⟩
    · exact .inl h7
    · exact .inr ⟨b, off, e1, e2, Nat.lt_of_lt_of_le e3 hs, valsAt_same h hs l b off e4⟩
theorem valsAt_same {w w' : World} (h : ∀ p v, w.cell? p = some v → w'.cell? p = some v) (hs : w.heap.size ≤ w'.heap.size) : ∀ (l : List Vl) (b off : Nat), valsAt w l b off → valsAt w' l b off
  | [], b, off, _ => by rw [valsAt_nil]; trivial
  | x :: l, b, off, ha => by
    rw [valsAt_cons] at ha ⊢
    obtain ⟨⟨cs, h1, h2, h3⟩, h4⟩ := ha
    refine ⟨⟨cs, h1, fun q hq => ?_, Vl.at_same h hs x cs h3⟩, valsAt_same h hs l b (off + 3) h4⟩
    have h5 := h2 q hq
    rw [List.getElem?_eq_getElem (by omega)] at h5 ⊢
    exact h _ _ h5
end
theorem isVal.stable (X : Vl) : Stable (isVal X) := by
  rintro v w w' ⟨zs, h1, h2⟩ hk
  exact ⟨zs, h1, Vl.at_same (fun _ _ h => hk.cell h) hk.1 _ _ h2⟩
theorem isVals.stable (L : List Vl) : Stable (isVals L) := by
  rintro v w w' ⟨a, cap, h1, h2, h3⟩ hk
  refine ⟨a, cap, h1, h2, ?_⟩
  rcases h3 with h3 | ⟨b, off, e1, e2, e3, e4⟩
  · exact .inl h3
  · exact .inr ⟨b, off, e1, e2, Nat.lt_of_lt_of_le e3 hk.1, valsAt_same (fun _ _ h => hk.cell h) hk.1 _ _ _ e4⟩
def factAt (L : List Fact) (i : Nat) : Fact := fun v w => ∃ P, L[i]? = some P ∧ P v w
theorem factAt_stable {L : List Fact} (h : AllG (fun _ P => Stable P) 0 L) (i : Nat) (v : Value) (w w' : World) (hf : factAt L i v w) (hk : KeepsC w w') : factAt L i v w' := by
  obtain ⟨P, h1, h2⟩ := hf
  have h3 := AllG.get L 0 h i P h1
  exact ⟨P, h1, h3 v w w' h2 hk⟩
theorem fact_get {L : List Fact} {i : Nat} {P : Fact} {v : Value} {w : World} (hi : L[i]? = some P) (h : factAt L i v w) : P v w := by
  obtain ⟨P', h1, h2⟩ := h
  rw [hi] at h1
  injection h1 with h1
  subst h1
  exact h2
theorem fact_put {L : List Fact} {i : Nat} {P : Fact} {v : Value} {w : World} (hi : L[i]? = some P) (h : P v w) : factAt L i v w := ⟨P, hi, h⟩
/-! steps -/
theorem eval_tmp {a : Act} {k : Nat} {v : Value} (h : a.tmps[k]? = some v) : a.eval (.tmp k) = v := by
  simp [Act.eval, h]
theorem conv_any (b n c : Nat) (cs : Array Value) (t : TypeId) (f : Nat × Nat) (w : World) (hb : w.heap[b]? = some (.cells cs t f)) : (convert 44 44 (.slice (some ⟨b, 0, none⟩) n c)).run Try.prog w = .ok (.slice (some ⟨b, 0, none⟩) n c) (w.freeze ⟨b, cs.size, none⟩ 1) := by
  have hs : w.shape? b = some (t, cs.size) := by simp [World.shape?, hb]
  simp [convert, run_underlying Try.underlying44, run_underlying Try.underlying5, markStringish, hs]
theorem wp_load_valK {o : Oper} {a : Act} {w : World} {KK : Act → World → Prop} {Q : Exit → Act → World → Prop} (x : Operand) (ho : o.op = .load 25 x) (b off : Nat) (cs : List Value) (hx : a.eval x = .pointer (some ⟨b, off, none⟩)) (hc : Val3 w b off cs)
    (hK : KK (a.put o.dst (.agg cs.toArray)) w) : o.wp Try.prog a w KK Q := by
  unfold Oper.wp execOp
  simp only [ho, hx, Instr.loadAt, Instr.sureAddr, Sem.run_bind, Sem.run_pure, Result.andThen_ok, loadVal hc]
  exact hK
theorem vals_lit (w : World) (L : List (Vl × List Value)) (hL : ∀ p ∈ L, Vl.at w p.1 p.2) (cs : Array Value) (hc : cs.toList = L.flatMap (·.2)) (hn : L.length ≤ maxLen) : ListAt (w.alloc (.cells cs 25)) (L.map (·.1)) (.slice (some ⟨w.heap.size, 0, none⟩) L.length L.length) := by
  refine ⟨_, _, by rw [List.length_map], by rw [List.length_map]; exact hn, .inr ⟨w.heap.size, 0, rfl, by rw [List.length_map]; exact Nat.le_refl _, by simp, valsAt_cells L 0 (fun p hp => Vl.at_below (K.alloc_below w _) (Nat.le_refl _) _ _ (hL p hp)) fun q _ => ?_⟩⟩
  rw [Nat.zero_add, cells_at (World.alloc_heap_new w _), ← Array.getElem?_toList, hc]
theorem at_of_list {w : World} {L : List Vl} {u : Value} (h : ListAt w L u) {k : Int} {z : Nat} (hk : fits64 k) (hz : z < 256) : Vl.at w (.mk k z L) [.int .i64 k, .int .u8 z, u] := by
  obtain ⟨a, cap, rfl, h1, h2⟩ := h
  rw [at_mk]
  exact ⟨hk, hz, a, cap, rfl, h1, h2⟩
theorem at_zeroC (W : World) (k : Int) (hk : fits64 k) : K.Cr.at W (.mk k 0 0 []) [.int .i64 k, .int .u64 0, .int .u64 0, .int .u64 0, .int .u64 0, .int .i64 0, .slice none 0 0] := by
  have h := K.at_plain (W := W) (k := k) (n := 0) 0 hk rfl
  rw [show word 0 0 = 0 from word_zero 0, show word 0 1 = 0 from word_zero 1, show word 0 2 = 0 from word_zero 2, show word 0 3 = 0 from word_zero 3] at h
  exact h
/-! the calls, with what they tell -/
end V
end Go.Proofs.Ytblgjcolmaidlaa
