/- The walk of law 9's LangKnown. -/
import Derived.Test.YtobhjfhmhhahoaaLangAwake
import Derived.Deep.DeepCutAuto
import Derived.Test.YtobhjfhmhhahoaaAnyGuard
namespace Go.Proofs.Ytobhjfhmhhahoaa
namespace K
set_option maxRecDepth 100000
open Go.RowKit

theorem first_eq {x : Cr} {cs : List Value} {w : World} (hat : Cr.at w x cs) {s : BitVec 256} (h : firstC x = s) : Calls Try.prog 16 #[.agg cs.toArray] w fun e w' => e = .returned (SV s) ∧ Below w.heap.size w w' := by
  subst h; exact lang_first hat
theorem at_zero (W : World) (k : Int) (hk : fits64 k) : Cr.at W (.mk k 0 0 []) [.int .i64 k, .int .u64 0, .int .u64 0, .int .u64 0, .int .u64 0, .int .i64 0, .slice none 0 0] := by
  have h := at_plain (W := W) (k := k) (n := 0) 0 hk rfl
  rw [wz0, wz1, wz2, wz3] at h
  exact h
theorem zeros_257 (n : Nat) : (madeCells (Value.int IntKind.u8 0).cells (n * 1)).toList = (List.replicate n 0).map u8v := by
  rw [List.map_replicate, Nat.mul_one]
  exact toList_madeCells_one (.int .u8 0) n
theorem wpList_make_u8 {ops : Array Oper} {rest : List Oper} {o : Oper} {a : Act} {w : World} {Q : Exit → Act → World → Prop} (hw : Region.wanted o (yielded ops a.tmps) = true) (x y : Operand) (ho : o.op = .makeSlice 35 x y) (n : Nat)
    (hx : a.eval x = .int .i64 n) (hy : a.eval y = .int .i64 n) (hn : n ≤ 100000)
    (h : ∀ w', BytesAt w' (some ⟨w.heap.size, 0, none⟩) n n (List.replicate n 0) → Below w.heap.size w w' → wpList Try.prog ops Q rest (a.put o.dst (.slice (some ⟨w.heap.size, 0, none⟩) n n)) w') : wpList Try.prog ops Q (o :: rest) a w := by
  obtain ⟨i0, hi, hz0, hz1, hz2⟩ := info_parts info_u8
  obtain ⟨w', hr, h2, h3⟩ := run_makeSlice_full (P := Try.prog) w w.heap.size 35 5 i0 (.int .u8 0) 1 Try.underlying35 hi hz0 hz1 .i64 .i64 n (by omega) (by rw [hz2]; omega) (by unfold maxLen; omega) (Nat.le_refl _)
  rw [zeros_257] at h2
  have hl : (List.replicate n 0).length = n := List.length_replicate
  have hb := bytesAt_of_owns (w' := w') (l := List.replicate n 0) (a := some ⟨w.heap.size, 0, none⟩) (cap := n) (base := w.heap.size) (by rw [hl]; exact h2) (by intro x hx; rw [List.eq_of_mem_replicate hx]; decide) (Below.refl _ _)
  rw [hl] at hb
  refine BigFrame.wpList_want hw fun _ hK => ?_
  unfold Oper.wp execOp
  simp only [ho, hx, hy, hr, Sem.run_bind, Sem.run_pure, Result.andThen_ok]
  exact hK _ _ (h _ hb ((Below.refl _ _).grown h3 (Nat.le_refl _) (fun k hk => by cases hk)))
end K
namespace K
open Go.RowKit
/-- of each member of a list in its place -/
def AllG {α : Type} (P : Nat → α → Prop) : Nat → List α → Prop
  | _, [] => True
  | k, x :: xs => P k x ∧ AllG P (k + 1) xs
theorem AllG.nil {α : Type} {P : Nat → α → Prop} {k : Nat} : AllG P k [] := trivial
theorem AllG.cons {α : Type} {P : Nat → α → Prop} {k k' : Nat} {x : α} {xs : List α} (e : k + 1 = k') (h : P k x) (h2 : AllG P k' xs) : AllG P k (x :: xs) := by
  subst e; exact ⟨h, h2⟩
theorem AllG.get {α : Type} {P : Nat → α → Prop} : ∀ (L : List α) (k : Nat), AllG P k L → ∀ (i : Nat) (o : α), L[i]? = some o → P (k + i) o
  | [], _, _, i, o, h => by cases h
  | x :: xs, k, h, 0, o, ho => by cases ho; exact h.1
  | x :: xs, k, h, i + 1, o, ho => by
    have h1 := AllG.get xs (k + 1) h.2 i o (by simpa using ho)
    rw [Nat.add_assoc, Nat.add_comm 1 i] at h1
    exact h1
theorem AllG.get0 {α : Type} {P : Nat → α → Prop} {L : List α} (h : AllG P 0 L) (i : Nat) (o : α) (ho : L.toArray[i]? = some o) : P i o := by
  have h1 := AllG.get L 0 h i o (by simpa using ho)
  rwa [Nat.zero_add] at h1
/-- bytes of a literal, in a block of the region's own -/
def BytV (B0 : Nat) (w : World) (v : Value) (l : List Nat) : Prop := ∃ (b : Nat) (cs : Array Value) (f : Nat × Nat), v = .slice (some ⟨b, 0, none⟩) l.length l.length ∧ w.heap[b]? = some (.cells cs 5 f) ∧ BytesAt w (some ⟨b, 0, none⟩) l.length l.length l ∧ B0 ≤ b
def BytW (w : World) (v : Value) (l : List Nat) : Prop := ∃ (p : Option Addr) (n c : Nat), v = .slice p n c ∧ BytesAt w p n c l
theorem bytes_keepsC {w w' : World} {a : Option Addr} {n cap : Nat} {l : List Nat} (h : BytesAt w a n cap l) (hk : KeepsC w w') : BytesAt w' a n cap l := by
  obtain ⟨h1, h2, h3, h4⟩ := h
  refine ⟨h1, h2, h3, ?_⟩
  rcases h4 with h4 | ⟨b, off, e, e2, e3, e4⟩
  · exact .inl h4
  · exact .inr ⟨b, off, e, e2, Nat.lt_of_lt_of_le e3 hk.1, fun j hj => hk.cell (e4 j hj)⟩
theorem BytV.keeps {B0 : Nat} {w w' : World} {v : Value} {l : List Nat} (h : BytV B0 w v l) (hk : KeepsC w w') : BytV B0 w' v l := by
  obtain ⟨b, cs, f, h1, h2, h3, h4⟩ := h
  obtain ⟨f', hf⟩ := hk.2 _ _ _ _ h2
  exact ⟨b, cs, f', h1, hf, bytes_keepsC h3 hk, h4⟩
theorem BytW.keeps {w w' : World} {v : Value} {l : List Nat} (h : BytW w v l) (hk : KeepsC w w') : BytW w' v l := by
  obtain ⟨p, n, c, h1, h2⟩ := h
  exact ⟨p, n, c, h1, bytes_keepsC h2 hk⟩
theorem NatsAt.keeps {w w' : World} {v : Value} {l : List Nat} (h : NatsAt w v l) (hk : KeepsC w w') : NatsAt w' v l := by
  obtain ⟨a, cap, h1, h2, h3⟩ := h
  refine ⟨a, cap, h1, h2, ?_⟩
  rcases h3 with h3 | ⟨g, e, h4, h5, h6⟩
  · exact .inl h3
  · exact .inr ⟨g, e, h4, Nat.lt_of_lt_of_le h5 hk.1, fun j n hj => hk.cell (h6 j n hj)⟩
theorem core_keeps {w w' : World} {X : Cr} {v : Value} (h : ∃ zs : List Value, v = .agg zs.toArray ∧ Cr.at w X zs) (hk : KeepsC w w') : ∃ zs : List Value, v = .agg zs.toArray ∧ Cr.at w' X zs := by
  obtain ⟨zs, h1, h2⟩ := h
  exact ⟨zs, h1, Cr.at_same (fun _ _ h => hk.cell h) hk.1 _ _ h2⟩
theorem conv_any (b n c : Nat) (cs : Array Value) (t : TypeId) (f : Nat × Nat) (w : World) (hb : w.heap[b]? = some (.cells cs t f)) : (convert 35 35 (.slice (some ⟨b, 0, none⟩) n c)).run Try.prog w = .ok (.slice (some ⟨b, 0, none⟩) n c) (w.freeze ⟨b, cs.size, none⟩ 1) := by
  have hs : w.shape? b = some (t, cs.size) := by simp [World.shape?, hb]
  simp [convert, run_underlying Try.underlying35, run_underlying Try.underlying5, markStringish, hs]
theorem freeze_keeps (w : World) (b k : Nat) : KeepsC w (w.freeze ⟨b, k, none⟩ 1) := by
  refine ⟨by simp [World.freeze], fun q cs t f hq => ?_⟩
  simp only [World.freeze, Nat.one_ne_zero, if_false, Array.getElem?_modify]
  by_cases e : b = q
  · subst e
    rw [if_pos rfl, hq]
    obtain ⟨lo, hi⟩ := f
    by_cases hl : lo = hi <;> simp [hl]
  · rw [if_neg e]
    exact ⟨f, hq⟩
theorem wp_conv_any {o : Oper} {a : Act} {w : World} {K : Act → World → Prop} {Q : Exit → Act → World → Prop} (x : Operand) (ho : o.op = .convert 35 35 x) (b n c : Nat) (cs : Array Value) (t : TypeId) (f : Nat × Nat)
    (hx : a.eval x = .slice (some ⟨b, 0, none⟩) n c) (hb : w.heap[b]? = some (.cells cs t f))
    (h : ∀ w', Only b w w' → (∀ p, w'.cell? p = w.cell? p) → KeepsC w w' → K (a.put o.dst (.slice (some ⟨b, 0, none⟩) n c)) w') : o.wp Try.prog a w K Q := by
  unfold Oper.wp execOp
  simp only [ho, hx, Sem.run_bind, Sem.run_pure, Result.andThen_ok, conv_any b n c cs t f w hb]
  exact h _ (freeze_only _ _ _) (freeze_cell _ _ _) (freeze_keeps _ _ _)
theorem wp_load_coreK {o : Oper} {a : Act} {w : World} {K : Act → World → Prop} {Q : Exit → Act → World → Prop} (x : Operand) (ho : o.op = .load 28 x) (b off : Nat) (cs : List Value) (hx : a.eval x = .pointer (some ⟨b, off, none⟩)) (hc : Core7 w b off cs)
    (hK : K (a.put o.dst (.agg cs.toArray)) w) : o.wp Try.prog a w K Q := by
  unfold Oper.wp execOp
  simp only [ho, hx, Instr.loadAt, Instr.sureAddr, Sem.run_bind, Sem.run_pure, Result.andThen_ok, loadCore hc]
  exact hK
theorem wp_make_u8 {o : Oper} {a : Act} {w : World} {K : Act → World → Prop} {Q : Exit → Act → World → Prop} (x y : Operand) (ho : o.op = .makeSlice 35 x y) (n : Nat)
    (hx : a.eval x = .int .i64 n) (hy : a.eval y = .int .i64 n) (hn : n ≤ 100000)
    (h : ∀ w', BytesAt w' (some ⟨w.heap.size, 0, none⟩) n n (List.replicate n 0) → Below w.heap.size w w' → K (a.put o.dst (.slice (some ⟨w.heap.size, 0, none⟩) n n)) w') : o.wp Try.prog a w K Q := by
  obtain ⟨i0, hi, hz0, hz1, hz2⟩ := info_parts info_u8
  obtain ⟨w', hr, h2, h3⟩ := run_makeSlice_full (P := Try.prog) w w.heap.size 35 5 i0 (.int .u8 0) 1 Try.underlying35 hi hz0 hz1 .i64 .i64 n (by omega) (by rw [hz2]; omega) (by unfold maxLen; omega) (Nat.le_refl _)
  rw [zeros_257] at h2
  have hl : (List.replicate n 0).length = n := List.length_replicate
  have hb := bytesAt_of_owns (w' := w') (l := List.replicate n 0) (a := some ⟨w.heap.size, 0, none⟩) (cap := n) (base := w.heap.size) (by rw [hl]; exact h2) (by intro x hx; rw [List.eq_of_mem_replicate hx]; decide) (Below.refl _ _)
  rw [hl] at hb
  unfold Oper.wp execOp
  simp only [ho, hx, hy, hr, Sem.run_bind, Sem.run_pure, Result.andThen_ok]
  exact h _ hb ((Below.refl _ _).grown h3 (Nat.le_refl _) (fun k hk => by cases hk))
theorem eval_tmpK {a : Act} {k : Nat} {v : Value} (h : a.tmps[k]? = some v) : a.eval (.tmp k) = v := by
  simp [Act.eval, h]
def kVal (B0 : Nat) (k8 : Int) (s8 : BitVec 256) (n8 : Int) (a8 : Option Addr) (len8 cap8 : Nat) (sA _sB sX sY sXY sE : BitVec 256) : Nat → Value → World → Prop
  | 0, v, _ => v = .agg #[.int .i64 k8, .int .u64 (word s8 0), .int .u64 (word s8 1), .int .u64 (word s8 2), .int .u64 (word s8 3), .int .i64 n8, .slice a8 len8 cap8]
  | 1, v, w => BytV B0 w v [97, 98, 98, 99]
  | 2, v, w => BytW w v [97, 98, 98, 99]
  | 3, v, w => NatsAt w v [1, 2, 3]
  | 4, v, w => NatsAt w v [1, 2, 3]
  | 5, v, _ => v = .bool true
  | 6, v, _ => v = .bool true
  | 7, v, _ => v = .agg #[.int .i64 k8, .int .u64 (word s8 0), .int .u64 (word s8 1), .int .u64 (word s8 2), .int .u64 (word s8 3), .int .i64 n8, .slice a8 len8 cap8]
  | 8, v, w => BytV B0 w v [97, 98, 98, 99]
  | 9, v, w => BytW w v [97, 98, 98, 99]
  | 10, v, w => NatsAt w v []
  | 11, v, _ => v = .int .i64 0
  | 12, v, _ => v = .bool true
  | 13, v, _ => v = .bool true
  | 14, v, _ => v = .bool true
  | 15, v, _ => v = .agg #[.int .i64 k8, .int .u64 (word s8 0), .int .u64 (word s8 1), .int .u64 (word s8 2), .int .u64 (word s8 3), .int .i64 n8, .slice a8 len8 cap8]
  | 16, v, w => BytV B0 w v [97]
  | 17, v, w => BytW w v [97]
  | 18, v, w => NatsAt w v []
  | 19, v, _ => v = .int .i64 0
  | 20, v, _ => v = .bool true
  | 21, v, _ => v = .bool true
  | 22, v, _ => v = .bool true
  | 23, v, _ => v = .agg #[.int .i64 k8, .int .u64 (word s8 0), .int .u64 (word s8 1), .int .u64 (word s8 2), .int .u64 (word s8 3), .int .i64 n8, .slice a8 len8 cap8]
  | 24, v, w => BytV B0 w v [97]
  | 25, v, w => BytW w v [97]
  | 26, v, w => NatsAt w v []
  | 27, v, _ => v = .int .i64 0
  | 28, v, _ => v = .bool true
  | 29, v, _ => v = .bool true
  | 30, v, _ => v = .bool true
  | 31, v, _ => v = .agg #[.int .i64 9, .int .u64 0, .int .u64 0, .int .u64 0, .int .u64 0, .int .i64 0, .slice none 0 0]
  | 32, v, w => NatsAt w v []
  | 33, v, _ => v = .int .i64 0
  | 34, v, _ => v = .bool true
  | 35, v, _ => v = .bool true
  | 36, v, _ => v = .bool true
  | 37, v, w => BytV B0 w v [97]
  | 38, v, w => ∃ zs : List Value, v = .agg zs.toArray ∧ Cr.at w (.mk 2 sA 0 []) zs
  | 39, v, w => BytW w v (List.replicate 257 0)
  | 40, v, w => NatsAt w v []
  | 41, v, _ => v = .int .i64 0
  | 42, v, _ => v = .bool true
  | 43, v, _ => v = .bool true
  | 44, v, _ => v = .bool true
  | 45, v, _ => v = .agg #[.int .i64 0, .int .u64 0, .int .u64 0, .int .u64 0, .int .u64 0, .int .i64 0, .slice none 0 0]
  | 46, v, _ => v = .bool false
  | 47, v, _ => v = .bool true
  | 48, v, _ => v = .bool true
  | 49, v, _ => v = .bool true
  | 50, v, _ => v = .agg #[.int .i64 0, .int .u64 0, .int .u64 0, .int .u64 0, .int .u64 0, .int .i64 0, .slice none 0 0]
  | 51, v, _ => v = .bool false
  | 52, v, _ => v = .bool true
  | 53, v, _ => v = .bool true
  | 54, v, _ => v = .bool true
  | 55, v, _ => v = .agg #[.int .i64 1, .int .u64 0, .int .u64 0, .int .u64 0, .int .u64 0, .int .i64 0, .slice none 0 0]
  | 56, v, _ => v = .bool true
  | 57, v, _ => v = .bool true
  | 58, v, _ => v = .bool true
  | 59, v, _ => v = .agg #[.int .i64 0, .int .u64 0, .int .u64 0, .int .u64 0, .int .u64 0, .int .i64 0, .slice none 0 0]
  | 60, v, w => ∃ zs : List Value, v = .agg zs.toArray ∧ Cr.at w (.mk 5 0 0 [(.mk 0 0 0 [])]) zs
  | 61, v, _ => v = .bool true
  | 62, v, _ => v = .bool true
  | 63, v, _ => v = .bool true
  | 64, v, _ => v = .agg #[.int .i64 k8, .int .u64 (word s8 0), .int .u64 (word s8 1), .int .u64 (word s8 2), .int .u64 (word s8 3), .int .i64 n8, .slice a8 len8 cap8]
  | 65, v, _ => v = SV sA
  | 66, v, w => BytV B0 w v [97]
  | 67, v, _ => v = SV sA
  | 68, v, _ => v = .bool true
  | 69, v, _ => v = .bool true
  | 70, v, _ => v = .bool true
  | 71, v, w => BytV B0 w v [120]
  | 72, v, w => ∃ zs : List Value, v = .agg zs.toArray ∧ Cr.at w (.mk 2 sX 0 []) zs
  | 73, v, w => ∃ zs : List Value, v = .agg zs.toArray ∧ Cr.at w (.mk 5 0 0 [(.mk 2 sX 0 [])]) zs
  | 74, v, w => BytV B0 w v [121]
  | 75, v, w => ∃ zs : List Value, v = .agg zs.toArray ∧ Cr.at w (.mk 2 sY 0 []) zs
  | 76, v, w => ∃ zs : List Value, v = .agg zs.toArray ∧ Cr.at w (.mk 3 0 0 [(.mk 5 0 0 [(.mk 2 sX 0 [])]), (.mk 2 sY 0 [])]) zs
  | 77, v, _ => v = SV sXY
  | 78, v, w => BytV B0 w v [120, 121]
  | 79, v, _ => v = SV sXY
  | 80, v, _ => v = .bool true
  | 81, v, _ => v = .bool true
  | 82, v, _ => v = .bool true
  | 83, v, w => BytV B0 w v [97]
  | 84, v, w => ∃ zs : List Value, v = .agg zs.toArray ∧ Cr.at w (.mk 2 sA 0 []) zs
  | 85, v, _ => v = .agg #[.int .i64 0, .int .u64 0, .int .u64 0, .int .u64 0, .int .u64 0, .int .i64 0, .slice none 0 0]
  | 86, v, w => ∃ zs : List Value, v = .agg zs.toArray ∧ Cr.at w (.mk 3 0 0 [(.mk 2 sA 0 []), (.mk 0 0 0 [])]) zs
  | 87, v, _ => v = SV sE
  | 88, v, _ => v = SV sE
  | 89, v, _ => v = .bool true
  | 90, v, _ => v = .bool true
  | 91, v, _ => v = .bool true
  | 92, v, _ => v = .agg #[.int .i64 2, .int .u64 0, .int .u64 0, .int .u64 0, .int .u64 0, .int .i64 0, .slice none 0 0]
  | 93, v, w => BytV B0 w v [97]
  | 94, v, w => BytW w v [97]
  | 95, v, _ => v = .bool false
  | 96, v, _ => v = .bool true
  | 97, v, _ => v = .bool true
  | 98, v, _ => v = .bool true
  | 99, v, w => BytV B0 w v [97]
  | 100, v, w => ∃ zs : List Value, v = .agg zs.toArray ∧ Cr.at w (.mk 2 sA 0 []) zs
  | 101, v, w => ∃ zs : List Value, v = .agg zs.toArray ∧ Cr.at w (.mk 5 0 0 [(.mk 2 sA 0 [])]) zs
  | 102, v, w => ∃ zs : List Value, v = .agg zs.toArray ∧ Cr.at w (.mk 5 0 0 [(.mk 5 0 0 [(.mk 2 sA 0 [])])]) zs
  | 103, v, w => BytV B0 w v [97, 97, 97]
  | 104, v, w => BytW w v [97, 97, 97]
  | 105, v, _ => v = .bool true
  | 106, v, _ => v = .bool true
  | 107, v, _ => v = .bool true
  | _, _, _ => False
theorem kVal_stable (B0 : Nat) (k8 : Int) (s8 : BitVec 256) (n8 : Int) (a8 : Option Addr) (len8 cap8 : Nat) (sA sB sX sY sXY sE : BitVec 256) (i : Nat) (v : Value) (w w' : World) (h : kVal B0 k8 s8 n8 a8 len8 cap8 sA sB sX sY sXY sE i v w) (hk : KeepsC w w') : kVal B0 k8 s8 n8 a8 len8 cap8 sA sB sX sY sXY sE i v w' := by
  match i, h with
  | 0, h => exact h
  | 1, h => exact BytV.keeps h hk
  | 2, h => exact BytW.keeps h hk
  | 3, h => exact NatsAt.keeps h hk
  | 4, h => exact NatsAt.keeps h hk
  | 5, h => exact h
  | 6, h => exact h
  | 7, h => exact h
  | 8, h => exact BytV.keeps h hk
  | 9, h => exact BytW.keeps h hk
  | 10, h => exact NatsAt.keeps h hk
  | 11, h => exact h
  | 12, h => exact h
  | 13, h => exact h
  | 14, h => exact h
  | 15, h => exact h
  | 16, h => exact BytV.keeps h hk
  | 17, h => exact BytW.keeps h hk
  | 18, h => exact NatsAt.keeps h hk
  | 19, h => exact h
  | 20, h => exact h
  | 21, h => exact h
  | 22, h => exact h
  | 23, h => exact h
  | 24, h => exact BytV.keeps h hk
  | 25, h => exact BytW.keeps h hk
  | 26, h => exact NatsAt.keeps h hk
  | 27, h => exact h
  | 28, h => exact h
  | 29, h => exact h
  | 30, h => exact h
  | 31, h => exact h
  | 32, h => exact NatsAt.keeps h hk
  | 33, h => exact h
  | 34, h => exact h
  | 35, h => exact h
  | 36, h => exact h
  | 37, h => exact BytV.keeps h hk
  | 38, h => exact core_keeps h hk
  | 39, h => exact BytW.keeps h hk
  | 40, h => exact NatsAt.keeps h hk
  | 41, h => exact h
  | 42, h => exact h
  | 43, h => exact h
  | 44, h => exact h
  | 45, h => exact h
  | 46, h => exact h
  | 47, h => exact h
  | 48, h => exact h
  | 49, h => exact h
  | 50, h => exact h
  | 51, h => exact h
  | 52, h => exact h
  | 53, h => exact h
  | 54, h => exact h
  | 55, h => exact h
  | 56, h => exact h
  | 57, h => exact h
  | 58, h => exact h
  | 59, h => exact h
  | 60, h => exact core_keeps h hk
  | 61, h => exact h
  | 62, h => exact h
  | 63, h => exact h
  | 64, h => exact h
  | 65, h => exact h
  | 66, h => exact BytV.keeps h hk
  | 67, h => exact h
  | 68, h => exact h
  | 69, h => exact h
  | 70, h => exact h
  | 71, h => exact BytV.keeps h hk
  | 72, h => exact core_keeps h hk
  | 73, h => exact core_keeps h hk
  | 74, h => exact BytV.keeps h hk
  | 75, h => exact core_keeps h hk
  | 76, h => exact core_keeps h hk
  | 77, h => exact h
  | 78, h => exact BytV.keeps h hk
  | 79, h => exact h
  | 80, h => exact h
  | 81, h => exact h
  | 82, h => exact h
  | 83, h => exact BytV.keeps h hk
  | 84, h => exact core_keeps h hk
  | 85, h => exact h
  | 86, h => exact core_keeps h hk
  | 87, h => exact h
  | 88, h => exact h
  | 89, h => exact h
  | 90, h => exact h
  | 91, h => exact h
  | 92, h => exact h
  | 93, h => exact BytV.keeps h hk
  | 94, h => exact BytW.keeps h hk
  | 95, h => exact h
  | 96, h => exact h
  | 97, h => exact h
  | 98, h => exact h
  | 99, h => exact BytV.keeps h hk
  | 100, h => exact core_keeps h hk
  | 101, h => exact core_keeps h hk
  | 102, h => exact core_keeps h hk
  | 103, h => exact BytV.keeps h hk
  | 104, h => exact BytW.keeps h hk
  | 105, h => exact h
  | 106, h => exact h
  | 107, h => exact h
  | _ + 108, h => exact h.elim
end K
open K
open Go.RowKit
set_option maxHeartbeats 16000000 in
theorem langKnown_walk (w : World) : Calls Try.prog 3 #[] w fun e w' => e = .returned (.bool true) ∧ Below w.heap.size w w' := by
  obtain ⟨sA, hsA⟩ : ∃ s, setOf [97] = s := ⟨_, rfl⟩
  have HsA := Lib.hid hsA
  obtain ⟨sB, hsB⟩ : ∃ s, setOf [98] = s := ⟨_, rfl⟩
  have HsB := Lib.hid hsB
  obtain ⟨sX, hsX⟩ : ∃ s, setOf [120] = s := ⟨_, rfl⟩
  have HsX := Lib.hid hsX
  obtain ⟨sY, hsY⟩ : ∃ s, setOf [121] = s := ⟨_, rfl⟩
  have HsY := Lib.hid hsY
  obtain ⟨sXY, hsXY⟩ : ∃ s, setOf [120, 121] = s := ⟨_, rfl⟩
  have HsXY := Lib.hid hsXY
  have F1 : Hid (endsC (.mk 3 0 0 [.mk 4 0 0 [(.mk 2 sA 0 []), .mk 3 0 0 [(.mk 2 sA 0 []), (.mk 2 sB 0 [])]], .mk 5 0 0 [(.mk 2 sB 0 [])]]) [97, 98, 98, 99] 0 = [1, 2, 3]) := Lib.hid (by first | (rw [← hsA, ← hsB]; decide +kernel) | (rw [← hsA]; decide +kernel) | (rw [← hsX, ← hsY, ← hsXY]; decide +kernel) | decide +kernel)
  have F2 : Hid (endsC (.mk 3 0 0 [.mk 4 0 0 [(.mk 2 sA 0 []), .mk 3 0 0 [(.mk 2 sA 0 []), (.mk 2 sB 0 [])]], .mk 5 0 0 [(.mk 2 sB 0 [])]]) [97, 98, 98, 99] 1 = []) := Lib.hid (by first | (rw [← hsA, ← hsB]; decide +kernel) | (rw [← hsA]; decide +kernel) | (rw [← hsX, ← hsY, ← hsXY]; decide +kernel) | decide +kernel)
  have F3 : Hid (endsC (.mk 3 0 0 [.mk 4 0 0 [(.mk 2 sA 0 []), .mk 3 0 0 [(.mk 2 sA 0 []), (.mk 2 sB 0 [])]], .mk 5 0 0 [(.mk 2 sB 0 [])]]) [97] 2 = []) := Lib.hid (by first | (rw [← hsA, ← hsB]; decide +kernel) | (rw [← hsA]; decide +kernel) | (rw [← hsX, ← hsY, ← hsXY]; decide +kernel) | decide +kernel)
  have F4 : Hid (endsC (.mk 3 0 0 [.mk 4 0 0 [(.mk 2 sA 0 []), .mk 3 0 0 [(.mk 2 sA 0 []), (.mk 2 sB 0 [])]], .mk 5 0 0 [(.mk 2 sB 0 [])]]) [97] (-1) = []) := Lib.hid (by first | (rw [← hsA, ← hsB]; decide +kernel) | (rw [← hsA]; decide +kernel) | (rw [← hsX, ← hsY, ← hsXY]; decide +kernel) | decide +kernel)
  have F5 : Hid (endsC (.mk 9 0 0 []) [] 0 = []) := Lib.hid (by first | (rw [← hsA, ← hsB]; decide +kernel) | (rw [← hsA]; decide +kernel) | (rw [← hsX, ← hsY, ← hsXY]; decide +kernel) | decide +kernel)
  have F6 : Hid (endsC (.mk 2 sA 0 []) (List.replicate 257 0) 0 = []) := Lib.hid (by unfold endsC; rw [if_neg (by rw [List.length_replicate]; omega)])
  have F7 : Hid (nullC (.mk 0 0 0 []) = false) := Lib.hid (by first | (rw [← hsA, ← hsB]; decide +kernel) | (rw [← hsA]; decide +kernel) | (rw [← hsX, ← hsY, ← hsXY]; decide +kernel) | decide +kernel)
  have F8 : Hid (saysC (.mk 0 0 0 []) [] = false) := Lib.hid (by first | (rw [← hsA, ← hsB]; decide +kernel) | (rw [← hsA]; decide +kernel) | (rw [← hsX, ← hsY, ← hsXY]; decide +kernel) | decide +kernel)
  have F9 : Hid (nullC (.mk 1 0 0 []) = true) := Lib.hid (by first | (rw [← hsA, ← hsB]; decide +kernel) | (rw [← hsA]; decide +kernel) | (rw [← hsX, ← hsY, ← hsXY]; decide +kernel) | decide +kernel)
  have F10 : Hid (nullC (.mk 5 0 0 [(.mk 0 0 0 [])]) = true) := Lib.hid (by first | (rw [← hsA, ← hsB]; decide +kernel) | (rw [← hsA]; decide +kernel) | (rw [← hsX, ← hsY, ← hsXY]; decide +kernel) | decide +kernel)
  have F11 : Hid (firstC (.mk 3 0 0 [.mk 4 0 0 [(.mk 2 sA 0 []), .mk 3 0 0 [(.mk 2 sA 0 []), (.mk 2 sB 0 [])]], .mk 5 0 0 [(.mk 2 sB 0 [])]]) = sA) := Lib.hid (by rw [← hsA, ← hsB]; decide +kernel)
  have F12 : Hid (firstC (.mk 3 0 0 [.mk 5 0 0 [(.mk 2 sX 0 [])], (.mk 2 sY 0 [])]) = sXY) := Lib.hid (by rw [← hsX, ← hsY, ← hsXY]; decide +kernel)
  obtain ⟨sE, hsE⟩ : ∃ s, setOf [] = s := ⟨_, rfl⟩
  have HsE := Lib.hid hsE
  have F13 : Hid (firstC (.mk 3 0 0 [(.mk 2 sA 0 []), (.mk 0 0 0 [])]) = sE) := Lib.hid (by rw [← hsA, ← hsE]; decide +kernel)
  have F14 : Hid (saysC (.mk 2 0 0 []) [97] = false) := Lib.hid (by first | (rw [← hsA, ← hsB]; decide +kernel) | (rw [← hsA]; decide +kernel) | (rw [← hsX, ← hsY, ← hsXY]; decide +kernel) | decide +kernel)
  have F15 : Hid (saysC (.mk 5 0 0 [.mk 5 0 0 [(.mk 2 sA 0 [])]]) [97, 97, 97] = true) := Lib.hid (by first | (rw [← hsA, ← hsB]; decide +kernel) | (rw [← hsA]; decide +kernel) | (rw [← hsX, ← hsY, ← hsXY]; decide +kernel) | decide +kernel)
  have q1 : ∀ w, (Op.equalIn 10000 25 (SV sA) (SV sA)).run Try.prog w = .ok true w := fun w => by have := eql_set sA sA w; rw [decide_eq_true rfl] at this; exact this
  have q2 : ∀ w, (Op.equalIn 10000 25 (SV sXY) (SV sXY)).run Try.prog w = .ok true w := fun w => by have := eql_set sXY sXY w; rw [decide_eq_true rfl] at this; exact this
  have q3 : ∀ w, (Op.equalIn 10000 25 (SV sE) (SV sE)).run Try.prog w = .ok true w := fun w => by have := eql_set sE sE w; rw [decide_eq_true rfl] at this; exact this
  have H0 := Lib.hid (Below.refl w.heap.size w)
  clear hsA hsB hsX hsY hsXY hsE
  go_enter Try.func3, Try.ntmps3
  go_wp2_with fail
  refine (awake9_walk _).mono ?_
  rintro e w1 ⟨rfl, hb⟩
  have HS := Lib.hid (hop (w0 := w) hb (by repeat (first | exact Below.refl _ _ | refine Below.alloc ?_ (by first | exact Nat.le_refl _ | (simp; done) | (simp; omega)) _)))
  have H1 := Lib.hid (H0.out.trans (HS.out.mono H0.out.size))
  clear hb HS
  go_wp2_with fail
  refine (ch_eq (bytes_lit _ [97] #[.int .u8 97] rfl (by decide) (by decide)) HsA.out).mono ?_
  rintro e w2 ⟨zs1, rfl, hat, hb⟩
  have HS := Lib.hid (hop (w0 := w1) hb (by repeat (first | exact Below.refl _ _ | refine Below.alloc ?_ (by first | exact Nat.le_refl _ | (simp; done) | (simp; omega)) _)))
  have H2 := Lib.hid (H1.out.trans (HS.out.mono H1.out.size))
  obtain ⟨k1, s1, n1, a1, len1, cap1, rfl⟩ := K.at_lit hat
  have A1 := Lib.hid hat
  clear hat hb HS
  go_wp2_with fail
  refine (ch_eq (bytes_lit _ [97] #[.int .u8 97] rfl (by decide) (by decide)) HsA.out).mono ?_
  rintro e w3 ⟨zs2, rfl, hat, hb⟩
  have HS := Lib.hid (hop (w0 := w2) hb (by repeat (first | exact Below.refl _ _ | refine Below.alloc ?_ (by first | exact Nat.le_refl _ | (simp; done) | (simp; omega)) _)))
  have H3 := Lib.hid (H2.out.trans (HS.out.mono H2.out.size))
  have A1 := Lib.hid (Cr.at_below HS.out (Nat.le_refl _) _ _ A1.out)
  obtain ⟨k2, s2, n2, a2, len2, cap2, rfl⟩ := K.at_lit hat
  have A2 := Lib.hid hat
  clear hat hb HS
  go_wp2_with fail
  refine (ch_eq (bytes_lit _ [98] #[.int .u8 98] rfl (by decide) (by decide)) HsB.out).mono ?_
  rintro e w4 ⟨zs3, rfl, hat, hb⟩
  have HS := Lib.hid (hop (w0 := w3) hb (by repeat (first | exact Below.refl _ _ | refine Below.alloc ?_ (by first | exact Nat.le_refl _ | (simp; done) | (simp; omega)) _)))
  have H4 := Lib.hid (H3.out.trans (HS.out.mono H3.out.size))
  have A1 := Lib.hid (Cr.at_below HS.out (Nat.le_refl _) _ _ A1.out)
  have A2 := Lib.hid (Cr.at_below HS.out (Nat.le_refl _) _ _ A2.out)
  obtain ⟨k3, s3, n3, a3, len3, cap3, rfl⟩ := K.at_lit hat
  have A3 := Lib.hid hat
  clear hat hb HS
  go_wp2_with fail
  refine (seq_walk (Cr.at_below (by repeat (first | exact Below.refl _ _ | refine Below.alloc ?_ (by first | exact Nat.le_refl _ | (simp; done) | (simp; omega)) _)) (Nat.le_refl _) _ _ A2.out) (Cr.at_below (by repeat (first | exact Below.refl _ _ | refine Below.alloc ?_ (by first | exact Nat.le_refl _ | (simp; done) | (simp; omega)) _)) (Nat.le_refl _) _ _ A3.out)).mono ?_
  rintro e w5 ⟨zs4, rfl, hat, hb⟩
  have HS := Lib.hid (hop (w0 := w4) hb (by repeat (first | exact Below.refl _ _ | refine Below.alloc ?_ (by first | exact Nat.le_refl _ | (simp; done) | (simp; omega)) _)))
  have H5 := Lib.hid (H4.out.trans (HS.out.mono H4.out.size))
  have A1 := Lib.hid (Cr.at_below HS.out (Nat.le_refl _) _ _ A1.out)
  obtain ⟨k4, s4, n4, a4, len4, cap4, rfl⟩ := K.at_lit hat
  have A4 := Lib.hid hat
  clear hat hb HS
  go_wp2_with fail
  refine (alt_walk (Cr.at_below (by repeat (first | exact Below.refl _ _ | refine Below.alloc ?_ (by first | exact Nat.le_refl _ | (simp; done) | (simp; omega)) _)) (Nat.le_refl _) _ _ A1.out) (Cr.at_below (by repeat (first | exact Below.refl _ _ | refine Below.alloc ?_ (by first | exact Nat.le_refl _ | (simp; done) | (simp; omega)) _)) (Nat.le_refl _) _ _ A4.out)).mono ?_
  rintro e w6 ⟨zs5, rfl, hat, hb⟩
  have HS := Lib.hid (hop (w0 := w5) hb (by repeat (first | exact Below.refl _ _ | refine Below.alloc ?_ (by first | exact Nat.le_refl _ | (simp; done) | (simp; omega)) _)))
  have H6 := Lib.hid (H5.out.trans (HS.out.mono H5.out.size))
  obtain ⟨k5, s5, n5, a5, len5, cap5, rfl⟩ := K.at_lit hat
  have A5 := Lib.hid hat
  clear hat hb HS
  go_wp2_with fail
  refine (ch_eq (bytes_lit _ [98] #[.int .u8 98] rfl (by decide) (by decide)) HsB.out).mono ?_
  rintro e w7 ⟨zs6, rfl, hat, hb⟩
  have HS := Lib.hid (hop (w0 := w6) hb (by repeat (first | exact Below.refl _ _ | refine Below.alloc ?_ (by first | exact Nat.le_refl _ | (simp; done) | (simp; omega)) _)))
  have H7 := Lib.hid (H6.out.trans (HS.out.mono H6.out.size))
  have A5 := Lib.hid (Cr.at_below HS.out (Nat.le_refl _) _ _ A5.out)
  obtain ⟨k6, s6, n6, a6, len6, cap6, rfl⟩ := K.at_lit hat
  have A6 := Lib.hid hat
  clear hat hb HS
  go_wp2_with fail
  refine (star_walk (Cr.at_below (by repeat (first | exact Below.refl _ _ | refine Below.alloc ?_ (by first | exact Nat.le_refl _ | (simp; done) | (simp; omega)) _)) (Nat.le_refl _) _ _ A6.out)).mono ?_
  rintro e w8 ⟨zs7, rfl, hat, hb⟩
  have HS := Lib.hid (hop (w0 := w7) hb (by repeat (first | exact Below.refl _ _ | refine Below.alloc ?_ (by first | exact Nat.le_refl _ | (simp; done) | (simp; omega)) _)))
  have H8 := Lib.hid (H7.out.trans (HS.out.mono H7.out.size))
  have A5 := Lib.hid (Cr.at_below HS.out (Nat.le_refl _) _ _ A5.out)
  obtain ⟨k7, s7, n7, a7, len7, cap7, rfl⟩ := K.at_lit hat
  have A7 := Lib.hid hat
  clear hat hb HS
  go_wp2_with fail
  refine (seq_walk (Cr.at_below (by repeat (first | exact Below.refl _ _ | refine Below.alloc ?_ (by first | exact Nat.le_refl _ | (simp; done) | (simp; omega)) _)) (Nat.le_refl _) _ _ A5.out) (Cr.at_below (by repeat (first | exact Below.refl _ _ | refine Below.alloc ?_ (by first | exact Nat.le_refl _ | (simp; done) | (simp; omega)) _)) (Nat.le_refl _) _ _ A7.out)).mono ?_
  rintro e w9 ⟨zs8, rfl, hat, hb⟩
  have HS := Lib.hid (hop (w0 := w8) hb (by repeat (first | exact Below.refl _ _ | refine Below.alloc ?_ (by first | exact Nat.le_refl _ | (simp; done) | (simp; omega)) _)))
  have H9 := Lib.hid (H8.out.trans (HS.out.mono H8.out.size))
  obtain ⟨k8, s8, n8, a8, len8, cap8, rfl⟩ := K.at_lit hat
  have A8 := Lib.hid hat
  clear hat hb HS
  go_upto_region 4 with fail
  obtain ⟨bc, hbc⟩ : ∃ bc, bc = w9.heap.size := ⟨_, rfl⟩
  obtain ⟨w10, hww10⟩ : ∃ ww, ww = w9.alloc (.cells #[.int .i64 k8, .int .u64 (word s8 0), .int .u64 (word s8 1), .int .u64 (word s8 2), .int .u64 (word s8 3), .int .i64 n8, .slice a8 len8 cap8] 28) := ⟨_, rfl⟩
  have hS : Below w9.heap.size w9 w10 := by rw [hww10]; exact K.alloc_below _ _
  have hB : CoreIn w10 bc #[.int .i64 k8, .int .u64 (word s8 0), .int .u64 (word s8 1), .int .u64 (word s8 2), .int .u64 (word s8 3), .int .i64 n8, .slice a8 len8 cap8] := by rw [hww10, hbc]; exact World.alloc_heap_new _ _
  rw [← hww10, ← hbc]
  clear hww10 hbc
  have H10 := Lib.hid (H9.out.trans (hS.mono H9.out.size))
  have A8 := Lib.hid (Cr.at_below hS (Nat.le_refl _) _ _ A8.out)
  have Bc := Lib.hid hB
  clear hS hB
  go_upto_region 5 with fail
  obtain ⟨bn, hbn⟩ : ∃ bn, bn = w10.heap.size := ⟨_, rfl⟩
  obtain ⟨W0, hW0⟩ : ∃ W0, W0 = w10.alloc (.cells #[.int .i64 0, .int .u64 0, .int .u64 0, .int .u64 0, .int .u64 0, .int .i64 0, .slice none 0 0] 28) := ⟨_, rfl⟩
  have hS : Below w10.heap.size w10 W0 := by rw [hW0]; exact K.alloc_below _ _
  have hBn : CoreIn W0 bn #[.int .i64 0, .int .u64 0, .int .u64 0, .int .u64 0, .int .u64 0, .int .i64 0, .slice none 0 0] := by rw [hW0, hbn]; exact World.alloc_heap_new _ _
  rw [← hW0, ← hbn]
  clear hW0 hbn
  have HW := Lib.hid (H10.out.trans (hS.mono H10.out.size))
  have HAT := Lib.hid (fun (w' : World) (h : Below W0.heap.size W0 w') => Cr.at_below (hop h hS) (Nat.le_refl _) _ _ A8.out)
  have H7c := Lib.hid (fun (w' : World) (h : Below W0.heap.size W0 w') => core7_in (cs := [.int .i64 k8, .int .u64 (word s8 0), .int .u64 (word s8 1), .int .u64 (word s8 2), .int .u64 (word s8 3), .int .i64 n8, .slice a8 len8 cap8]) (core_later (hop h hS) Bc.out) rfl)
  have H7n := Lib.hid (fun (w' : World) (h : Below W0.heap.size W0 w') => core7_in (cs := [.int .i64 0, .int .u64 0, .int .u64 0, .int .u64 0, .int .u64 0, .int .i64 0, .slice none 0 0]) (core_later h hBn) rfl)
  clear hS hBn
  go_cut [0] from 18 to 124 (fun v wx => v = .bool true ∧ Below W0.heap.size W0 wx)
  case first =>
   rename_i J K' hR hMet
   refine wp_region_guards (kVal W0.heap.size k8 s8 n8 a8 len8 cap8 sA sB sX sY sXY sE) (W0 := W0) (by kernel_rfl) (by kernel_rfl) (by kernel_rfl) (Below.refl _ _) (fun i v w w' h hk => kVal_stable _ _ _ _ _ _ _ _ _ _ _ _ _ i v w w' h hk) [6, 14, 22, 30, 36, 44, 49, 54, 58, 63, 70, 82, 91, 98] (by kernel_rfl) ?hgu ?hop ?hend
   case hgu =>
    intro j hj v w h
    simp only [List.mem_cons, List.not_mem_nil, or_false] at hj
    rcases hj with rfl | rfl | rfl | rfl | rfl | rfl | rfl | rfl | rfl | rfl | rfl | rfl | rfl | rfl <;> exact h
   case hop =>
    refine AllG.get0 ?_
    refine AllG.cons (k' := 1) rfl ?_ ?_
    · intro a' w' hB hk hin Kc hK
      refine wp_load_coreK _ rfl bc 0 _ (eval_tmpK (by rw [hk 1 (by kernel_rfl)]; rfl)) (H7c.out _ hB) ?_
      exact hK _ _ (hB) (KeepsC.of_below (Below.refl _ _)) rfl
    refine AllG.cons (k' := 2) rfl ?_ ?_
    · intro a' w' hB hk hin Kc hK
      unfold Oper.wp execOp
      go_simp
      exact hK _ _ (hB.alloc hB.size _) (KeepsC.of_below ((Below.refl _ _).alloc (Nat.le_refl _) _)) ⟨w'.heap.size, _, _, rfl, World.alloc_heap_new _ _, bytes_lit w' [97, 98, 98, 99] #[.int .u8 97, .int .u8 98, .int .u8 98, .int .u8 99] rfl (by decide) (by decide), hB.size⟩
    refine AllG.cons (k' := 3) rfl ?_ ?_
    · intro a' w' hB hk hin Kc hK
      obtain ⟨v1, e1, q1⟩ := hin 1 _ 19 rfl rfl ⟨{ on := 1, ground := .data }, by simp, rfl, rfl⟩
      obtain ⟨b1, cs1, f1, r1, hh1, hy1, hz1⟩ := q1
      subst r1
      refine wp_conv_any _ rfl b1 _ _ cs1 _ f1 (eval_tmpK e1) hh1 ?_
      intro w2 ho2 hc2 hkp
      exact hK _ _ (ho2.below hB hz1) hkp ⟨_, _, _, rfl, bytesAt_cells hy1 hc2 (Nat.le_of_eq ho2.size.symm)⟩
    refine AllG.cons (k' := 4) rfl ?_ ?_
    · intro a' w' hB hk hin Kc hK
      obtain ⟨v2, e2, q2⟩ := hin 0 _ 18 rfl rfl ⟨{ on := 0, ground := .data }, by simp, rfl, rfl⟩
      have q2' : v2 = .agg #[.int .i64 k8, .int .u64 (word s8 0), .int .u64 (word s8 1), .int .u64 (word s8 2), .int .u64 (word s8 3), .int .i64 n8, .slice a8 len8 cap8] := q2
      subst q2'
      obtain ⟨v3, e3, q3⟩ := hin 2 _ 20 rfl rfl ⟨{ on := 2, ground := .data }, by simp, rfl, rfl⟩
      obtain ⟨p3, n3, c3, r3, hy3⟩ := q3
      subst r3
      unfold Oper.wp execOp
      go_simp
      refine (ends_eq' (HAT.out _ hB) hy3 (0) F1.out).mono ?_
      rintro e wn ⟨vr, rfl, hat, hbn⟩
      exact hK _ _ (hB.trans (hbn.mono hB.size)) (KeepsC.of_below hbn) hat
    refine AllG.cons (k' := 5) rfl ?_ ?_
    · intro a' w' hB hk hin Kc hK
      unfold Oper.wp execOp
      go_simp
      exact hK _ _ (hB.alloc hB.size _) (KeepsC.of_below ((Below.refl _ _).alloc (Nat.le_refl _) _)) (nats_lit w' [1, 2, 3] _ rfl (by decide))
    refine AllG.cons (k' := 6) rfl ?_ ?_
    · intro a' w' hB hk hin Kc hK
      obtain ⟨v4, e4, q4⟩ := hin 3 _ 21 rfl rfl ⟨{ on := 3, ground := .data }, by simp, rfl, rfl⟩
      have hn4 : NatsAt w' v4 [1, 2, 3] := q4
      obtain ⟨a4, cap4, r4, _⟩ := q4
      subst r4
      obtain ⟨v5, e5, q5⟩ := hin 4 _ 22 rfl rfl ⟨{ on := 4, ground := .data }, by simp, rfl, rfl⟩
      have hn5 : NatsAt w' v5 [1, 2, 3] := q5
      obtain ⟨a5, cap5, r5, _⟩ := q5
      subst r5
      unfold Oper.wp execOp
      go_simp
      refine (ints_eq hn4 hn5 (b := true) (by decide)).mono ?_
      rintro e wn ⟨rfl, hbn⟩
      exact hK _ _ (hB.trans (hbn.mono hB.size)) (KeepsC.of_below hbn) rfl
    refine AllG.cons (k' := 7) rfl ?_ ?_
    · intro a' w' hB hk hin Kc hK
      obtain ⟨v6, e6, q6⟩ := hin 5 _ 23 rfl rfl ⟨{ on := 5, ground := .data }, by simp, rfl, rfl⟩
      have q6' : v6 = .bool true := q6
      subst q6'
      unfold Oper.wp execOp
      go_simp
      exact hK _ _ (hB) (KeepsC.of_below (Below.refl _ _)) rfl
    refine AllG.cons (k' := 8) rfl ?_ ?_
    · intro a' w' hB hk hin Kc hK
      refine wp_load_coreK _ rfl bc 0 _ (eval_tmpK (by rw [hk 1 (by kernel_rfl)]; rfl)) (H7c.out _ hB) ?_
      exact hK _ _ (hB) (KeepsC.of_below (Below.refl _ _)) rfl
    refine AllG.cons (k' := 9) rfl ?_ ?_
    · intro a' w' hB hk hin Kc hK
      unfold Oper.wp execOp
      go_simp
      exact hK _ _ (hB.alloc hB.size _) (KeepsC.of_below ((Below.refl _ _).alloc (Nat.le_refl _) _)) ⟨w'.heap.size, _, _, rfl, World.alloc_heap_new _ _, bytes_lit w' [97, 98, 98, 99] #[.int .u8 97, .int .u8 98, .int .u8 98, .int .u8 99] rfl (by decide) (by decide), hB.size⟩
    refine AllG.cons (k' := 10) rfl ?_ ?_
    · intro a' w' hB hk hin Kc hK
      obtain ⟨v7, e7, q7⟩ := hin 8 _ 26 rfl rfl ⟨{ on := 8, ground := .data }, by simp, rfl, rfl⟩
      obtain ⟨b7, cs7, f7, r7, hh7, hy7, hz7⟩ := q7
      subst r7
      refine wp_conv_any _ rfl b7 _ _ cs7 _ f7 (eval_tmpK e7) hh7 ?_
      intro w2 ho2 hc2 hkp
      exact hK _ _ (ho2.below hB hz7) hkp ⟨_, _, _, rfl, bytesAt_cells hy7 hc2 (Nat.le_of_eq ho2.size.symm)⟩
    refine AllG.cons (k' := 11) rfl ?_ ?_
    · intro a' w' hB hk hin Kc hK
      obtain ⟨v8, e8, q8⟩ := hin 7 _ 25 rfl rfl ⟨{ on := 7, ground := .data }, by simp, rfl, rfl⟩
      have q8' : v8 = .agg #[.int .i64 k8, .int .u64 (word s8 0), .int .u64 (word s8 1), .int .u64 (word s8 2), .int .u64 (word s8 3), .int .i64 n8, .slice a8 len8 cap8] := q8
      subst q8'
      obtain ⟨v9, e9, q9⟩ := hin 9 _ 27 rfl rfl ⟨{ on := 9, ground := .data }, by simp, rfl, rfl⟩
      obtain ⟨p9, n9, c9, r9, hy9⟩ := q9
      subst r9
      unfold Oper.wp execOp
      go_simp
      refine (ends_eq' (HAT.out _ hB) hy9 (1) F2.out).mono ?_
      rintro e wn ⟨vr, rfl, hat, hbn⟩
      exact hK _ _ (hB.trans (hbn.mono hB.size)) (KeepsC.of_below hbn) hat
    refine AllG.cons (k' := 12) rfl ?_ ?_
    · intro a' w' hB hk hin Kc hK
      obtain ⟨v10, e10, q10⟩ := hin 10 _ 28 rfl rfl ⟨{ on := 10, ground := .data }, by simp, rfl, rfl⟩
      have hn10 : NatsAt w' v10 [] := q10
      obtain ⟨a10, cap10, r10, _⟩ := q10
      subst r10
      unfold Oper.wp execOp
      go_simp
      exact hK _ _ (hB) (KeepsC.of_below (Below.refl _ _)) rfl
    refine AllG.cons (k' := 13) rfl ?_ ?_
    · intro a' w' hB hk hin Kc hK
      obtain ⟨v11, e11, q11⟩ := hin 11 _ 29 rfl rfl ⟨{ on := 11, ground := .data }, by simp, rfl, rfl⟩
      have q11' : v11 = .int .i64 0 := q11
      subst q11'
      unfold Oper.wp execOp
      go_simp
      exact hK _ _ (hB) (KeepsC.of_below (Below.refl _ _)) rfl
    refine AllG.cons (k' := 14) rfl ?_ ?_
    · intro a' w' hB hk hin Kc hK
      obtain ⟨v12, e12, q12⟩ := hin 6 _ 24 rfl rfl ⟨{ on := 6, ground := .data }, by simp, rfl, rfl⟩
      have q12' : v12 = .bool true := q12
      subst q12'
      obtain ⟨v13, e13, q13⟩ := hin 12 _ 30 rfl rfl ⟨{ on := 12, ground := .data }, by simp, rfl, rfl⟩
      have q13' : v13 = .bool true := q13
      subst q13'
      unfold Oper.wp execOp
      go_simp
      exact hK _ _ (hB) (KeepsC.of_below (Below.refl _ _)) rfl
    refine AllG.cons (k' := 15) rfl ?_ ?_
    · intro a' w' hB hk hin Kc hK
      obtain ⟨v14, e14, q14⟩ := hin 13 _ 31 rfl rfl ⟨{ on := 13, ground := .data }, by simp, rfl, rfl⟩
      have q14' : v14 = .bool true := q14
      subst q14'
      unfold Oper.wp execOp
      go_simp
      exact hK _ _ (hB) (KeepsC.of_below (Below.refl _ _)) rfl
    refine AllG.cons (k' := 16) rfl ?_ ?_
    · intro a' w' hB hk hin Kc hK
      refine wp_load_coreK _ rfl bc 0 _ (eval_tmpK (by rw [hk 1 (by kernel_rfl)]; rfl)) (H7c.out _ hB) ?_
      exact hK _ _ (hB) (KeepsC.of_below (Below.refl _ _)) rfl
    refine AllG.cons (k' := 17) rfl ?_ ?_
    · intro a' w' hB hk hin Kc hK
      unfold Oper.wp execOp
      go_simp
      exact hK _ _ (hB.alloc hB.size _) (KeepsC.of_below ((Below.refl _ _).alloc (Nat.le_refl _) _)) ⟨w'.heap.size, _, _, rfl, World.alloc_heap_new _ _, bytes_lit w' [97] #[.int .u8 97] rfl (by decide) (by decide), hB.size⟩
    refine AllG.cons (k' := 18) rfl ?_ ?_
    · intro a' w' hB hk hin Kc hK
      obtain ⟨v15, e15, q15⟩ := hin 16 _ 34 rfl rfl ⟨{ on := 16, ground := .data }, by simp, rfl, rfl⟩
      obtain ⟨b15, cs15, f15, r15, hh15, hy15, hz15⟩ := q15
      subst r15
      refine wp_conv_any _ rfl b15 _ _ cs15 _ f15 (eval_tmpK e15) hh15 ?_
      intro w2 ho2 hc2 hkp
      exact hK _ _ (ho2.below hB hz15) hkp ⟨_, _, _, rfl, bytesAt_cells hy15 hc2 (Nat.le_of_eq ho2.size.symm)⟩
    refine AllG.cons (k' := 19) rfl ?_ ?_
    · intro a' w' hB hk hin Kc hK
      obtain ⟨v16, e16, q16⟩ := hin 15 _ 33 rfl rfl ⟨{ on := 15, ground := .data }, by simp, rfl, rfl⟩
      have q16' : v16 = .agg #[.int .i64 k8, .int .u64 (word s8 0), .int .u64 (word s8 1), .int .u64 (word s8 2), .int .u64 (word s8 3), .int .i64 n8, .slice a8 len8 cap8] := q16
      subst q16'
      obtain ⟨v17, e17, q17⟩ := hin 17 _ 35 rfl rfl ⟨{ on := 17, ground := .data }, by simp, rfl, rfl⟩
      obtain ⟨p17, n17, c17, r17, hy17⟩ := q17
      subst r17
      unfold Oper.wp execOp
      go_simp
      refine (ends_eq' (HAT.out _ hB) hy17 (2) F3.out).mono ?_
      rintro e wn ⟨vr, rfl, hat, hbn⟩
      exact hK _ _ (hB.trans (hbn.mono hB.size)) (KeepsC.of_below hbn) hat
    refine AllG.cons (k' := 20) rfl ?_ ?_
    · intro a' w' hB hk hin Kc hK
      obtain ⟨v18, e18, q18⟩ := hin 18 _ 36 rfl rfl ⟨{ on := 18, ground := .data }, by simp, rfl, rfl⟩
      have hn18 : NatsAt w' v18 [] := q18
      obtain ⟨a18, cap18, r18, _⟩ := q18
      subst r18
      unfold Oper.wp execOp
      go_simp
      exact hK _ _ (hB) (KeepsC.of_below (Below.refl _ _)) rfl
    refine AllG.cons (k' := 21) rfl ?_ ?_
    · intro a' w' hB hk hin Kc hK
      obtain ⟨v19, e19, q19⟩ := hin 19 _ 37 rfl rfl ⟨{ on := 19, ground := .data }, by simp, rfl, rfl⟩
      have q19' : v19 = .int .i64 0 := q19
      subst q19'
      unfold Oper.wp execOp
      go_simp
      exact hK _ _ (hB) (KeepsC.of_below (Below.refl _ _)) rfl
    refine AllG.cons (k' := 22) rfl ?_ ?_
    · intro a' w' hB hk hin Kc hK
      obtain ⟨v20, e20, q20⟩ := hin 14 _ 32 rfl rfl ⟨{ on := 14, ground := .data }, by simp, rfl, rfl⟩
      have q20' : v20 = .bool true := q20
      subst q20'
      obtain ⟨v21, e21, q21⟩ := hin 20 _ 38 rfl rfl ⟨{ on := 20, ground := .data }, by simp, rfl, rfl⟩
      have q21' : v21 = .bool true := q21
      subst q21'
      unfold Oper.wp execOp
      go_simp
      exact hK _ _ (hB) (KeepsC.of_below (Below.refl _ _)) rfl
    refine AllG.cons (k' := 23) rfl ?_ ?_
    · intro a' w' hB hk hin Kc hK
      obtain ⟨v22, e22, q22⟩ := hin 21 _ 39 rfl rfl ⟨{ on := 21, ground := .data }, by simp, rfl, rfl⟩
      have q22' : v22 = .bool true := q22
      subst q22'
      unfold Oper.wp execOp
      go_simp
      exact hK _ _ (hB) (KeepsC.of_below (Below.refl _ _)) rfl
    refine AllG.cons (k' := 24) rfl ?_ ?_
    · intro a' w' hB hk hin Kc hK
      refine wp_load_coreK _ rfl bc 0 _ (eval_tmpK (by rw [hk 1 (by kernel_rfl)]; rfl)) (H7c.out _ hB) ?_
      exact hK _ _ (hB) (KeepsC.of_below (Below.refl _ _)) rfl
    refine AllG.cons (k' := 25) rfl ?_ ?_
    · intro a' w' hB hk hin Kc hK
      unfold Oper.wp execOp
      go_simp
      exact hK _ _ (hB.alloc hB.size _) (KeepsC.of_below ((Below.refl _ _).alloc (Nat.le_refl _) _)) ⟨w'.heap.size, _, _, rfl, World.alloc_heap_new _ _, bytes_lit w' [97] #[.int .u8 97] rfl (by decide) (by decide), hB.size⟩
    refine AllG.cons (k' := 26) rfl ?_ ?_
    · intro a' w' hB hk hin Kc hK
      obtain ⟨v23, e23, q23⟩ := hin 24 _ 42 rfl rfl ⟨{ on := 24, ground := .data }, by simp, rfl, rfl⟩
      obtain ⟨b23, cs23, f23, r23, hh23, hy23, hz23⟩ := q23
      subst r23
      refine wp_conv_any _ rfl b23 _ _ cs23 _ f23 (eval_tmpK e23) hh23 ?_
      intro w2 ho2 hc2 hkp
      exact hK _ _ (ho2.below hB hz23) hkp ⟨_, _, _, rfl, bytesAt_cells hy23 hc2 (Nat.le_of_eq ho2.size.symm)⟩
    refine AllG.cons (k' := 27) rfl ?_ ?_
    · intro a' w' hB hk hin Kc hK
      obtain ⟨v24, e24, q24⟩ := hin 23 _ 41 rfl rfl ⟨{ on := 23, ground := .data }, by simp, rfl, rfl⟩
      have q24' : v24 = .agg #[.int .i64 k8, .int .u64 (word s8 0), .int .u64 (word s8 1), .int .u64 (word s8 2), .int .u64 (word s8 3), .int .i64 n8, .slice a8 len8 cap8] := q24
      subst q24'
      obtain ⟨v25, e25, q25⟩ := hin 25 _ 43 rfl rfl ⟨{ on := 25, ground := .data }, by simp, rfl, rfl⟩
      obtain ⟨p25, n25, c25, r25, hy25⟩ := q25
      subst r25
      unfold Oper.wp execOp
      go_simp
      refine (ends_eq' (HAT.out _ hB) hy25 (-1) F4.out).mono ?_
      rintro e wn ⟨vr, rfl, hat, hbn⟩
      exact hK _ _ (hB.trans (hbn.mono hB.size)) (KeepsC.of_below hbn) hat
    refine AllG.cons (k' := 28) rfl ?_ ?_
    · intro a' w' hB hk hin Kc hK
      obtain ⟨v26, e26, q26⟩ := hin 26 _ 44 rfl rfl ⟨{ on := 26, ground := .data }, by simp, rfl, rfl⟩
      have hn26 : NatsAt w' v26 [] := q26
      obtain ⟨a26, cap26, r26, _⟩ := q26
      subst r26
      unfold Oper.wp execOp
      go_simp
      exact hK _ _ (hB) (KeepsC.of_below (Below.refl _ _)) rfl
    refine AllG.cons (k' := 29) rfl ?_ ?_
    · intro a' w' hB hk hin Kc hK
      obtain ⟨v27, e27, q27⟩ := hin 27 _ 45 rfl rfl ⟨{ on := 27, ground := .data }, by simp, rfl, rfl⟩
      have q27' : v27 = .int .i64 0 := q27
      subst q27'
      unfold Oper.wp execOp
      go_simp
      exact hK _ _ (hB) (KeepsC.of_below (Below.refl _ _)) rfl
    refine AllG.cons (k' := 30) rfl ?_ ?_
    · intro a' w' hB hk hin Kc hK
      obtain ⟨v28, e28, q28⟩ := hin 22 _ 40 rfl rfl ⟨{ on := 22, ground := .data }, by simp, rfl, rfl⟩
      have q28' : v28 = .bool true := q28
      subst q28'
      obtain ⟨v29, e29, q29⟩ := hin 28 _ 46 rfl rfl ⟨{ on := 28, ground := .data }, by simp, rfl, rfl⟩
      have q29' : v29 = .bool true := q29
      subst q29'
      unfold Oper.wp execOp
      go_simp
      exact hK _ _ (hB) (KeepsC.of_below (Below.refl _ _)) rfl
    refine AllG.cons (k' := 31) rfl ?_ ?_
    · intro a' w' hB hk hin Kc hK
      obtain ⟨v30, e30, q30⟩ := hin 29 _ 47 rfl rfl ⟨{ on := 29, ground := .data }, by simp, rfl, rfl⟩
      have q30' : v30 = .bool true := q30
      subst q30'
      unfold Oper.wp execOp
      go_simp
      exact hK _ _ (hB) (KeepsC.of_below (Below.refl _ _)) rfl
    refine AllG.cons (k' := 32) rfl ?_ ?_
    · intro a' w' hB hk hin Kc hK
      unfold Oper.wp execOp
      go_simp
      exact hK _ _ (hB) (KeepsC.of_below (Below.refl _ _)) rfl
    refine AllG.cons (k' := 33) rfl ?_ ?_
    · intro a' w' hB hk hin Kc hK
      obtain ⟨v31, e31, q31⟩ := hin 31 _ 49 rfl rfl ⟨{ on := 31, ground := .data }, by simp, rfl, rfl⟩
      have q31' : v31 = .agg #[.int .i64 9, .int .u64 0, .int .u64 0, .int .u64 0, .int .u64 0, .int .i64 0, .slice none 0 0] := q31
      subst q31'
      unfold Oper.wp execOp
      go_simp
      refine (ends_eq' (at_zero w' 9 rfl) (bytes_nil w' _ _) (0) F5.out).mono ?_
      rintro e wn ⟨vr, rfl, hat, hbn⟩
      exact hK _ _ (hB.trans (hbn.mono hB.size)) (KeepsC.of_below hbn) hat
    refine AllG.cons (k' := 34) rfl ?_ ?_
    · intro a' w' hB hk hin Kc hK
      obtain ⟨v32, e32, q32⟩ := hin 32 _ 50 rfl rfl ⟨{ on := 32, ground := .data }, by simp, rfl, rfl⟩
      have hn32 : NatsAt w' v32 [] := q32
      obtain ⟨a32, cap32, r32, _⟩ := q32
      subst r32
      unfold Oper.wp execOp
      go_simp
      exact hK _ _ (hB) (KeepsC.of_below (Below.refl _ _)) rfl
    refine AllG.cons (k' := 35) rfl ?_ ?_
    · intro a' w' hB hk hin Kc hK
      obtain ⟨v33, e33, q33⟩ := hin 33 _ 51 rfl rfl ⟨{ on := 33, ground := .data }, by simp, rfl, rfl⟩
      have q33' : v33 = .int .i64 0 := q33
      subst q33'
      unfold Oper.wp execOp
      go_simp
      exact hK _ _ (hB) (KeepsC.of_below (Below.refl _ _)) rfl
    refine AllG.cons (k' := 36) rfl ?_ ?_
    · intro a' w' hB hk hin Kc hK
      obtain ⟨v34, e34, q34⟩ := hin 30 _ 48 rfl rfl ⟨{ on := 30, ground := .data }, by simp, rfl, rfl⟩
      have q34' : v34 = .bool true := q34
      subst q34'
      obtain ⟨v35, e35, q35⟩ := hin 34 _ 52 rfl rfl ⟨{ on := 34, ground := .data }, by simp, rfl, rfl⟩
      have q35' : v35 = .bool true := q35
      subst q35'
      unfold Oper.wp execOp
      go_simp
      exact hK _ _ (hB) (KeepsC.of_below (Below.refl _ _)) rfl
    refine AllG.cons (k' := 37) rfl ?_ ?_
    · intro a' w' hB hk hin Kc hK
      obtain ⟨v36, e36, q36⟩ := hin 35 _ 53 rfl rfl ⟨{ on := 35, ground := .data }, by simp, rfl, rfl⟩
      have q36' : v36 = .bool true := q36
      subst q36'
      unfold Oper.wp execOp
      go_simp
      exact hK _ _ (hB) (KeepsC.of_below (Below.refl _ _)) rfl
    refine AllG.cons (k' := 38) rfl ?_ ?_
    · intro a' w' hB hk hin Kc hK
      unfold Oper.wp execOp
      go_simp
      exact hK _ _ (hB.alloc hB.size _) (KeepsC.of_below ((Below.refl _ _).alloc (Nat.le_refl _) _)) ⟨w'.heap.size, _, _, rfl, World.alloc_heap_new _ _, bytes_lit w' [97] #[.int .u8 97] rfl (by decide) (by decide), hB.size⟩
    refine AllG.cons (k' := 39) rfl ?_ ?_
    · intro a' w' hB hk hin Kc hK
      obtain ⟨v37, e37, q37⟩ := hin 37 _ 55 rfl rfl ⟨{ on := 37, ground := .data }, by simp, rfl, rfl⟩
      obtain ⟨b37, cs37, f37, r37, hh37, hy37, hz37⟩ := q37
      subst r37
      unfold Oper.wp execOp
      go_simp
      refine (ch_eq hy37 HsA.out).mono ?_
      rintro e wn ⟨zz, rfl, hat, hbn⟩
      exact hK _ _ (hB.trans (hbn.mono hB.size)) (KeepsC.of_below hbn) ⟨zz, rfl, hat⟩
    refine AllG.cons (k' := 40) rfl ?_ ?_
    · intro a' w' hB hk hin Kc hK
      refine wp_make_u8 _ _ rfl 257 rfl rfl (by decide) ?_
      intro w2 hb2 hbn
      exact hK _ _ (hB.trans (hbn.mono hB.size)) (KeepsC.of_below hbn) ⟨_, _, _, rfl, hb2⟩
    refine AllG.cons (k' := 41) rfl ?_ ?_
    · intro a' w' hB hk hin Kc hK
      obtain ⟨v38, e38, q38⟩ := hin 38 _ 56 rfl rfl ⟨{ on := 38, ground := .data }, by simp, rfl, rfl⟩
      obtain ⟨zs38, r38, hat38⟩ := q38
      subst r38
      obtain ⟨v39, e39, q39⟩ := hin 39 _ 57 rfl rfl ⟨{ on := 39, ground := .data }, by simp, rfl, rfl⟩
      obtain ⟨p39, n39, c39, r39, hy39⟩ := q39
      subst r39
      unfold Oper.wp execOp
      go_simp
      refine (ends_eq' hat38 hy39 (0) F6.out).mono ?_
      rintro e wn ⟨vr, rfl, hat, hbn⟩
      exact hK _ _ (hB.trans (hbn.mono hB.size)) (KeepsC.of_below hbn) hat
    refine AllG.cons (k' := 42) rfl ?_ ?_
    · intro a' w' hB hk hin Kc hK
      obtain ⟨v40, e40, q40⟩ := hin 40 _ 58 rfl rfl ⟨{ on := 40, ground := .data }, by simp, rfl, rfl⟩
      have hn40 : NatsAt w' v40 [] := q40
      obtain ⟨a40, cap40, r40, _⟩ := q40
      subst r40
      unfold Oper.wp execOp
      go_simp
      exact hK _ _ (hB) (KeepsC.of_below (Below.refl _ _)) rfl
    refine AllG.cons (k' := 43) rfl ?_ ?_
    · intro a' w' hB hk hin Kc hK
      obtain ⟨v41, e41, q41⟩ := hin 41 _ 59 rfl rfl ⟨{ on := 41, ground := .data }, by simp, rfl, rfl⟩
      have q41' : v41 = .int .i64 0 := q41
      subst q41'
      unfold Oper.wp execOp
      go_simp
      exact hK _ _ (hB) (KeepsC.of_below (Below.refl _ _)) rfl
    refine AllG.cons (k' := 44) rfl ?_ ?_
    · intro a' w' hB hk hin Kc hK
      obtain ⟨v42, e42, q42⟩ := hin 36 _ 54 rfl rfl ⟨{ on := 36, ground := .data }, by simp, rfl, rfl⟩
      have q42' : v42 = .bool true := q42
      subst q42'
      obtain ⟨v43, e43, q43⟩ := hin 42 _ 60 rfl rfl ⟨{ on := 42, ground := .data }, by simp, rfl, rfl⟩
      have q43' : v43 = .bool true := q43
      subst q43'
      unfold Oper.wp execOp
      go_simp
      exact hK _ _ (hB) (KeepsC.of_below (Below.refl _ _)) rfl
    refine AllG.cons (k' := 45) rfl ?_ ?_
    · intro a' w' hB hk hin Kc hK
      obtain ⟨v44, e44, q44⟩ := hin 43 _ 61 rfl rfl ⟨{ on := 43, ground := .data }, by simp, rfl, rfl⟩
      have q44' : v44 = .bool true := q44
      subst q44'
      unfold Oper.wp execOp
      go_simp
      exact hK _ _ (hB) (KeepsC.of_below (Below.refl _ _)) rfl
    refine AllG.cons (k' := 46) rfl ?_ ?_
    · intro a' w' hB hk hin Kc hK
      refine wp_load_coreK _ rfl bn 0 _ (eval_tmpK (by rw [hk 2 (by kernel_rfl)]; rfl)) (H7n.out _ hB) ?_
      exact hK _ _ (hB) (KeepsC.of_below (Below.refl _ _)) rfl
    refine AllG.cons (k' := 47) rfl ?_ ?_
    · intro a' w' hB hk hin Kc hK
      obtain ⟨v45, e45, q45⟩ := hin 45 _ 63 rfl rfl ⟨{ on := 45, ground := .data }, by simp, rfl, rfl⟩
      have q45' : v45 = .agg #[.int .i64 0, .int .u64 0, .int .u64 0, .int .u64 0, .int .u64 0, .int .i64 0, .slice none 0 0] := q45
      subst q45'
      unfold Oper.wp execOp
      go_simp
      refine (null_eq (at_zero w' 0 rfl) F7.out).mono ?_
      rintro e wn ⟨rfl, hbn⟩
      exact hK _ _ (hB.trans (hbn.mono hB.size)) (KeepsC.of_below hbn) rfl
    refine AllG.cons (k' := 48) rfl ?_ ?_
    · intro a' w' hB hk hin Kc hK
      obtain ⟨v46, e46, q46⟩ := hin 46 _ 64 rfl rfl ⟨{ on := 46, ground := .data }, by simp, rfl, rfl⟩
      have q46' : v46 = .bool false := q46
      subst q46'
      unfold Oper.wp execOp
      go_simp
      exact hK _ _ (hB) (KeepsC.of_below (Below.refl _ _)) rfl
    refine AllG.cons (k' := 49) rfl ?_ ?_
    · intro a' w' hB hk hin Kc hK
      obtain ⟨v47, e47, q47⟩ := hin 44 _ 62 rfl rfl ⟨{ on := 44, ground := .data }, by simp, rfl, rfl⟩
      have q47' : v47 = .bool true := q47
      subst q47'
      obtain ⟨v48, e48, q48⟩ := hin 47 _ 65 rfl rfl ⟨{ on := 47, ground := .data }, by simp, rfl, rfl⟩
      have q48' : v48 = .bool true := q48
      subst q48'
      unfold Oper.wp execOp
      go_simp
      exact hK _ _ (hB) (KeepsC.of_below (Below.refl _ _)) rfl
    refine AllG.cons (k' := 50) rfl ?_ ?_
    · intro a' w' hB hk hin Kc hK
      obtain ⟨v49, e49, q49⟩ := hin 48 _ 66 rfl rfl ⟨{ on := 48, ground := .data }, by simp, rfl, rfl⟩
      have q49' : v49 = .bool true := q49
      subst q49'
      unfold Oper.wp execOp
      go_simp
      exact hK _ _ (hB) (KeepsC.of_below (Below.refl _ _)) rfl
    refine AllG.cons (k' := 51) rfl ?_ ?_
    · intro a' w' hB hk hin Kc hK
      refine wp_load_coreK _ rfl bn 0 _ (eval_tmpK (by rw [hk 2 (by kernel_rfl)]; rfl)) (H7n.out _ hB) ?_
      exact hK _ _ (hB) (KeepsC.of_below (Below.refl _ _)) rfl
    refine AllG.cons (k' := 52) rfl ?_ ?_
    · intro a' w' hB hk hin Kc hK
      obtain ⟨v50, e50, q50⟩ := hin 50 _ 68 rfl rfl ⟨{ on := 50, ground := .data }, by simp, rfl, rfl⟩
      have q50' : v50 = .agg #[.int .i64 0, .int .u64 0, .int .u64 0, .int .u64 0, .int .u64 0, .int .i64 0, .slice none 0 0] := q50
      subst q50'
      unfold Oper.wp execOp
      go_simp
      refine (says_eq (at_zero w' 0 rfl) (bytes_nil w' _ _) F8.out).mono ?_
      rintro e wn ⟨rfl, hbn⟩
      exact hK _ _ (hB.trans (hbn.mono hB.size)) (KeepsC.of_below hbn) rfl
    refine AllG.cons (k' := 53) rfl ?_ ?_
    · intro a' w' hB hk hin Kc hK
      obtain ⟨v51, e51, q51⟩ := hin 51 _ 69 rfl rfl ⟨{ on := 51, ground := .data }, by simp, rfl, rfl⟩
      have q51' : v51 = .bool false := q51
      subst q51'
      unfold Oper.wp execOp
      go_simp
      exact hK _ _ (hB) (KeepsC.of_below (Below.refl _ _)) rfl
    refine AllG.cons (k' := 54) rfl ?_ ?_
    · intro a' w' hB hk hin Kc hK
      obtain ⟨v52, e52, q52⟩ := hin 49 _ 67 rfl rfl ⟨{ on := 49, ground := .data }, by simp, rfl, rfl⟩
      have q52' : v52 = .bool true := q52
      subst q52'
      obtain ⟨v53, e53, q53⟩ := hin 52 _ 70 rfl rfl ⟨{ on := 52, ground := .data }, by simp, rfl, rfl⟩
      have q53' : v53 = .bool true := q53
      subst q53'
      unfold Oper.wp execOp
      go_simp
      exact hK _ _ (hB) (KeepsC.of_below (Below.refl _ _)) rfl
    refine AllG.cons (k' := 55) rfl ?_ ?_
    · intro a' w' hB hk hin Kc hK
      obtain ⟨v54, e54, q54⟩ := hin 53 _ 71 rfl rfl ⟨{ on := 53, ground := .data }, by simp, rfl, rfl⟩
      have q54' : v54 = .bool true := q54
      subst q54'
      unfold Oper.wp execOp
      go_simp
      exact hK _ _ (hB) (KeepsC.of_below (Below.refl _ _)) rfl
    refine AllG.cons (k' := 56) rfl ?_ ?_
    · intro a' w' hB hk hin Kc hK
      unfold Oper.wp execOp
      go_simp
      exact hK _ _ (hB) (KeepsC.of_below (Below.refl _ _)) rfl
    refine AllG.cons (k' := 57) rfl ?_ ?_
    · intro a' w' hB hk hin Kc hK
      obtain ⟨v55, e55, q55⟩ := hin 55 _ 73 rfl rfl ⟨{ on := 55, ground := .data }, by simp, rfl, rfl⟩
      have q55' : v55 = .agg #[.int .i64 1, .int .u64 0, .int .u64 0, .int .u64 0, .int .u64 0, .int .i64 0, .slice none 0 0] := q55
      subst q55'
      unfold Oper.wp execOp
      go_simp
      refine (null_eq (at_zero w' 1 rfl) F9.out).mono ?_
      rintro e wn ⟨rfl, hbn⟩
      exact hK _ _ (hB.trans (hbn.mono hB.size)) (KeepsC.of_below hbn) rfl
    refine AllG.cons (k' := 58) rfl ?_ ?_
    · intro a' w' hB hk hin Kc hK
      obtain ⟨v56, e56, q56⟩ := hin 54 _ 72 rfl rfl ⟨{ on := 54, ground := .data }, by simp, rfl, rfl⟩
      have q56' : v56 = .bool true := q56
      subst q56'
      obtain ⟨v57, e57, q57⟩ := hin 56 _ 74 rfl rfl ⟨{ on := 56, ground := .data }, by simp, rfl, rfl⟩
      have q57' : v57 = .bool true := q57
      subst q57'
      unfold Oper.wp execOp
      go_simp
      exact hK _ _ (hB) (KeepsC.of_below (Below.refl _ _)) rfl
    refine AllG.cons (k' := 59) rfl ?_ ?_
    · intro a' w' hB hk hin Kc hK
      obtain ⟨v58, e58, q58⟩ := hin 57 _ 75 rfl rfl ⟨{ on := 57, ground := .data }, by simp, rfl, rfl⟩
      have q58' : v58 = .bool true := q58
      subst q58'
      unfold Oper.wp execOp
      go_simp
      exact hK _ _ (hB) (KeepsC.of_below (Below.refl _ _)) rfl
    refine AllG.cons (k' := 60) rfl ?_ ?_
    · intro a' w' hB hk hin Kc hK
      refine wp_load_coreK _ rfl bn 0 _ (eval_tmpK (by rw [hk 2 (by kernel_rfl)]; rfl)) (H7n.out _ hB) ?_
      exact hK _ _ (hB) (KeepsC.of_below (Below.refl _ _)) rfl
    refine AllG.cons (k' := 61) rfl ?_ ?_
    · intro a' w' hB hk hin Kc hK
      obtain ⟨v59, e59, q59⟩ := hin 59 _ 77 rfl rfl ⟨{ on := 59, ground := .data }, by simp, rfl, rfl⟩
      have q59' : v59 = .agg #[.int .i64 0, .int .u64 0, .int .u64 0, .int .u64 0, .int .u64 0, .int .i64 0, .slice none 0 0] := q59
      subst q59'
      unfold Oper.wp execOp
      go_simp
      refine (star_walk (at_zero w' 0 rfl)).mono ?_
      rintro e wn ⟨zz, rfl, hat, hbn⟩
      exact hK _ _ (hB.trans (hbn.mono hB.size)) (KeepsC.of_below hbn) ⟨zz, rfl, hat⟩
    refine AllG.cons (k' := 62) rfl ?_ ?_
    · intro a' w' hB hk hin Kc hK
      obtain ⟨v60, e60, q60⟩ := hin 60 _ 78 rfl rfl ⟨{ on := 60, ground := .data }, by simp, rfl, rfl⟩
      obtain ⟨zs60, r60, hat60⟩ := q60
      subst r60
      unfold Oper.wp execOp
      go_simp
      refine (null_eq hat60 F10.out).mono ?_
      rintro e wn ⟨rfl, hbn⟩
      exact hK _ _ (hB.trans (hbn.mono hB.size)) (KeepsC.of_below hbn) rfl
    refine AllG.cons (k' := 63) rfl ?_ ?_
    · intro a' w' hB hk hin Kc hK
      obtain ⟨v61, e61, q61⟩ := hin 58 _ 76 rfl rfl ⟨{ on := 58, ground := .data }, by simp, rfl, rfl⟩
      have q61' : v61 = .bool true := q61
      subst q61'
      obtain ⟨v62, e62, q62⟩ := hin 61 _ 79 rfl rfl ⟨{ on := 61, ground := .data }, by simp, rfl, rfl⟩
      have q62' : v62 = .bool true := q62
      subst q62'
      unfold Oper.wp execOp
      go_simp
      exact hK _ _ (hB) (KeepsC.of_below (Below.refl _ _)) rfl
    refine AllG.cons (k' := 64) rfl ?_ ?_
    · intro a' w' hB hk hin Kc hK
      obtain ⟨v63, e63, q63⟩ := hin 62 _ 80 rfl rfl ⟨{ on := 62, ground := .data }, by simp, rfl, rfl⟩
      have q63' : v63 = .bool true := q63
      subst q63'
      unfold Oper.wp execOp
      go_simp
      exact hK _ _ (hB) (KeepsC.of_below (Below.refl _ _)) rfl
    refine AllG.cons (k' := 65) rfl ?_ ?_
    · intro a' w' hB hk hin Kc hK
      refine wp_load_coreK _ rfl bc 0 _ (eval_tmpK (by rw [hk 1 (by kernel_rfl)]; rfl)) (H7c.out _ hB) ?_
      exact hK _ _ (hB) (KeepsC.of_below (Below.refl _ _)) rfl
    refine AllG.cons (k' := 66) rfl ?_ ?_
    · intro a' w' hB hk hin Kc hK
      obtain ⟨v64, e64, q64⟩ := hin 64 _ 82 rfl rfl ⟨{ on := 64, ground := .data }, by simp, rfl, rfl⟩
      have q64' : v64 = .agg #[.int .i64 k8, .int .u64 (word s8 0), .int .u64 (word s8 1), .int .u64 (word s8 2), .int .u64 (word s8 3), .int .i64 n8, .slice a8 len8 cap8] := q64
      subst q64'
      unfold Oper.wp execOp
      go_simp
      refine (first_eq (HAT.out _ hB) F11.out).mono ?_
      rintro e wn ⟨rfl, hbn⟩
      exact hK _ _ (hB.trans (hbn.mono hB.size)) (KeepsC.of_below hbn) rfl
    refine AllG.cons (k' := 67) rfl ?_ ?_
    · intro a' w' hB hk hin Kc hK
      unfold Oper.wp execOp
      go_simp
      exact hK _ _ (hB.alloc hB.size _) (KeepsC.of_below ((Below.refl _ _).alloc (Nat.le_refl _) _)) ⟨w'.heap.size, _, _, rfl, World.alloc_heap_new _ _, bytes_lit w' [97] #[.int .u8 97] rfl (by decide) (by decide), hB.size⟩
    refine AllG.cons (k' := 68) rfl ?_ ?_
    · intro a' w' hB hk hin Kc hK
      obtain ⟨v65, e65, q65⟩ := hin 66 _ 84 rfl rfl ⟨{ on := 66, ground := .data }, by simp, rfl, rfl⟩
      obtain ⟨b65, cs65, f65, r65, hh65, hy65, hz65⟩ := q65
      subst r65
      unfold Oper.wp execOp
      go_simp
      refine (of_eq hy65 HsA.out).mono ?_
      rintro e wn ⟨rfl, hbn⟩
      exact hK _ _ (hB.trans (hbn.mono hB.size)) (KeepsC.of_below hbn) rfl
    refine AllG.cons (k' := 69) rfl ?_ ?_
    · intro a' w' hB hk hin Kc hK
      obtain ⟨v66, e66, q66⟩ := hin 65 _ 83 rfl rfl ⟨{ on := 65, ground := .data }, by simp, rfl, rfl⟩
      have q66' : v66 = SV sA := q66
      subst q66'
      obtain ⟨v67, e67, q67⟩ := hin 67 _ 85 rfl rfl ⟨{ on := 67, ground := .data }, by simp, rfl, rfl⟩
      have q67' : v67 = SV sA := q67
      subst q67'
      unfold Oper.wp execOp
      go_simp
      exact hK _ _ (hB) (KeepsC.of_below (Below.refl _ _)) rfl
    refine AllG.cons (k' := 70) rfl ?_ ?_
    · intro a' w' hB hk hin Kc hK
      obtain ⟨v68, e68, q68⟩ := hin 63 _ 81 rfl rfl ⟨{ on := 63, ground := .data }, by simp, rfl, rfl⟩
      have q68' : v68 = .bool true := q68
      subst q68'
      obtain ⟨v69, e69, q69⟩ := hin 68 _ 86 rfl rfl ⟨{ on := 68, ground := .data }, by simp, rfl, rfl⟩
      have q69' : v69 = .bool true := q69
      subst q69'
      unfold Oper.wp execOp
      go_simp
      exact hK _ _ (hB) (KeepsC.of_below (Below.refl _ _)) rfl
    refine AllG.cons (k' := 71) rfl ?_ ?_
    · intro a' w' hB hk hin Kc hK
      obtain ⟨v70, e70, q70⟩ := hin 69 _ 87 rfl rfl ⟨{ on := 69, ground := .data }, by simp, rfl, rfl⟩
      have q70' : v70 = .bool true := q70
      subst q70'
      unfold Oper.wp execOp
      go_simp
      exact hK _ _ (hB) (KeepsC.of_below (Below.refl _ _)) rfl
    refine AllG.cons (k' := 72) rfl ?_ ?_
    · intro a' w' hB hk hin Kc hK
      unfold Oper.wp execOp
      go_simp
      exact hK _ _ (hB.alloc hB.size _) (KeepsC.of_below ((Below.refl _ _).alloc (Nat.le_refl _) _)) ⟨w'.heap.size, _, _, rfl, World.alloc_heap_new _ _, bytes_lit w' [120] #[.int .u8 120] rfl (by decide) (by decide), hB.size⟩
    refine AllG.cons (k' := 73) rfl ?_ ?_
    · intro a' w' hB hk hin Kc hK
      obtain ⟨v71, e71, q71⟩ := hin 71 _ 89 rfl rfl ⟨{ on := 71, ground := .data }, by simp, rfl, rfl⟩
      obtain ⟨b71, cs71, f71, r71, hh71, hy71, hz71⟩ := q71
      subst r71
      unfold Oper.wp execOp
      go_simp
      refine (ch_eq hy71 HsX.out).mono ?_
      rintro e wn ⟨zz, rfl, hat, hbn⟩
      exact hK _ _ (hB.trans (hbn.mono hB.size)) (KeepsC.of_below hbn) ⟨zz, rfl, hat⟩
    refine AllG.cons (k' := 74) rfl ?_ ?_
    · intro a' w' hB hk hin Kc hK
      obtain ⟨v72, e72, q72⟩ := hin 72 _ 90 rfl rfl ⟨{ on := 72, ground := .data }, by simp, rfl, rfl⟩
      obtain ⟨zs72, r72, hat72⟩ := q72
      subst r72
      unfold Oper.wp execOp
      go_simp
      refine (star_walk hat72).mono ?_
      rintro e wn ⟨zz, rfl, hat, hbn⟩
      exact hK _ _ (hB.trans (hbn.mono hB.size)) (KeepsC.of_below hbn) ⟨zz, rfl, hat⟩
    refine AllG.cons (k' := 75) rfl ?_ ?_
    · intro a' w' hB hk hin Kc hK
      unfold Oper.wp execOp
      go_simp
      exact hK _ _ (hB.alloc hB.size _) (KeepsC.of_below ((Below.refl _ _).alloc (Nat.le_refl _) _)) ⟨w'.heap.size, _, _, rfl, World.alloc_heap_new _ _, bytes_lit w' [121] #[.int .u8 121] rfl (by decide) (by decide), hB.size⟩
    refine AllG.cons (k' := 76) rfl ?_ ?_
    · intro a' w' hB hk hin Kc hK
      obtain ⟨v73, e73, q73⟩ := hin 74 _ 92 rfl rfl ⟨{ on := 74, ground := .data }, by simp, rfl, rfl⟩
      obtain ⟨b73, cs73, f73, r73, hh73, hy73, hz73⟩ := q73
      subst r73
      unfold Oper.wp execOp
      go_simp
      refine (ch_eq hy73 HsY.out).mono ?_
      rintro e wn ⟨zz, rfl, hat, hbn⟩
      exact hK _ _ (hB.trans (hbn.mono hB.size)) (KeepsC.of_below hbn) ⟨zz, rfl, hat⟩
    refine AllG.cons (k' := 77) rfl ?_ ?_
    · intro a' w' hB hk hin Kc hK
      obtain ⟨v74, e74, q74⟩ := hin 73 _ 91 rfl rfl ⟨{ on := 73, ground := .data }, by simp, rfl, rfl⟩
      obtain ⟨zs74, r74, hat74⟩ := q74
      subst r74
      obtain ⟨v75, e75, q75⟩ := hin 75 _ 93 rfl rfl ⟨{ on := 75, ground := .data }, by simp, rfl, rfl⟩
      obtain ⟨zs75, r75, hat75⟩ := q75
      subst r75
      unfold Oper.wp execOp
      go_simp
      refine (seq_walk hat74 hat75).mono ?_
      rintro e wn ⟨zz, rfl, hat, hbn⟩
      exact hK _ _ (hB.trans (hbn.mono hB.size)) (KeepsC.of_below hbn) ⟨zz, rfl, hat⟩
    refine AllG.cons (k' := 78) rfl ?_ ?_
    · intro a' w' hB hk hin Kc hK
      obtain ⟨v76, e76, q76⟩ := hin 76 _ 94 rfl rfl ⟨{ on := 76, ground := .data }, by simp, rfl, rfl⟩
      obtain ⟨zs76, r76, hat76⟩ := q76
      subst r76
      unfold Oper.wp execOp
      go_simp
      refine (first_eq hat76 F12.out).mono ?_
      rintro e wn ⟨rfl, hbn⟩
      exact hK _ _ (hB.trans (hbn.mono hB.size)) (KeepsC.of_below hbn) rfl
    refine AllG.cons (k' := 79) rfl ?_ ?_
    · intro a' w' hB hk hin Kc hK
      unfold Oper.wp execOp
      go_simp
      exact hK _ _ (hB.alloc hB.size _) (KeepsC.of_below ((Below.refl _ _).alloc (Nat.le_refl _) _)) ⟨w'.heap.size, _, _, rfl, World.alloc_heap_new _ _, bytes_lit w' [120, 121] #[.int .u8 120, .int .u8 121] rfl (by decide) (by decide), hB.size⟩
    refine AllG.cons (k' := 80) rfl ?_ ?_
    · intro a' w' hB hk hin Kc hK
      obtain ⟨v77, e77, q77⟩ := hin 78 _ 96 rfl rfl ⟨{ on := 78, ground := .data }, by simp, rfl, rfl⟩
      obtain ⟨b77, cs77, f77, r77, hh77, hy77, hz77⟩ := q77
      subst r77
      unfold Oper.wp execOp
      go_simp
      refine (of_eq hy77 HsXY.out).mono ?_
      rintro e wn ⟨rfl, hbn⟩
      exact hK _ _ (hB.trans (hbn.mono hB.size)) (KeepsC.of_below hbn) rfl
    refine AllG.cons (k' := 81) rfl ?_ ?_
    · intro a' w' hB hk hin Kc hK
      obtain ⟨v78, e78, q78⟩ := hin 77 _ 95 rfl rfl ⟨{ on := 77, ground := .data }, by simp, rfl, rfl⟩
      have q78' : v78 = SV sXY := q78
      subst q78'
      obtain ⟨v79, e79, q79⟩ := hin 79 _ 97 rfl rfl ⟨{ on := 79, ground := .data }, by simp, rfl, rfl⟩
      have q79' : v79 = SV sXY := q79
      subst q79'
      unfold Oper.wp execOp
      go_simp
      exact hK _ _ (hB) (KeepsC.of_below (Below.refl _ _)) rfl
    refine AllG.cons (k' := 82) rfl ?_ ?_
    · intro a' w' hB hk hin Kc hK
      obtain ⟨v80, e80, q80⟩ := hin 70 _ 88 rfl rfl ⟨{ on := 70, ground := .data }, by simp, rfl, rfl⟩
      have q80' : v80 = .bool true := q80
      subst q80'
      obtain ⟨v81, e81, q81⟩ := hin 80 _ 98 rfl rfl ⟨{ on := 80, ground := .data }, by simp, rfl, rfl⟩
      have q81' : v81 = .bool true := q81
      subst q81'
      unfold Oper.wp execOp
      go_simp
      exact hK _ _ (hB) (KeepsC.of_below (Below.refl _ _)) rfl
    refine AllG.cons (k' := 83) rfl ?_ ?_
    · intro a' w' hB hk hin Kc hK
      obtain ⟨v82, e82, q82⟩ := hin 81 _ 99 rfl rfl ⟨{ on := 81, ground := .data }, by simp, rfl, rfl⟩
      have q82' : v82 = .bool true := q82
      subst q82'
      unfold Oper.wp execOp
      go_simp
      exact hK _ _ (hB) (KeepsC.of_below (Below.refl _ _)) rfl
    refine AllG.cons (k' := 84) rfl ?_ ?_
    · intro a' w' hB hk hin Kc hK
      unfold Oper.wp execOp
      go_simp
      exact hK _ _ (hB.alloc hB.size _) (KeepsC.of_below ((Below.refl _ _).alloc (Nat.le_refl _) _)) ⟨w'.heap.size, _, _, rfl, World.alloc_heap_new _ _, bytes_lit w' [97] #[.int .u8 97] rfl (by decide) (by decide), hB.size⟩
    refine AllG.cons (k' := 85) rfl ?_ ?_
    · intro a' w' hB hk hin Kc hK
      obtain ⟨v83, e83, q83⟩ := hin 83 _ 101 rfl rfl ⟨{ on := 83, ground := .data }, by simp, rfl, rfl⟩
      obtain ⟨b83, cs83, f83, r83, hh83, hy83, hz83⟩ := q83
      subst r83
      unfold Oper.wp execOp
      go_simp
      refine (ch_eq hy83 HsA.out).mono ?_
      rintro e wn ⟨zz, rfl, hat, hbn⟩
      exact hK _ _ (hB.trans (hbn.mono hB.size)) (KeepsC.of_below hbn) ⟨zz, rfl, hat⟩
    refine AllG.cons (k' := 86) rfl ?_ ?_
    · intro a' w' hB hk hin Kc hK
      refine wp_load_coreK _ rfl bn 0 _ (eval_tmpK (by rw [hk 2 (by kernel_rfl)]; rfl)) (H7n.out _ hB) ?_
      exact hK _ _ (hB) (KeepsC.of_below (Below.refl _ _)) rfl
    refine AllG.cons (k' := 87) rfl ?_ ?_
    · intro a' w' hB hk hin Kc hK
      obtain ⟨v84, e84, q84⟩ := hin 84 _ 102 rfl rfl ⟨{ on := 84, ground := .data }, by simp, rfl, rfl⟩
      obtain ⟨zs84, r84, hat84⟩ := q84
      subst r84
      obtain ⟨v85, e85, q85⟩ := hin 85 _ 103 rfl rfl ⟨{ on := 85, ground := .data }, by simp, rfl, rfl⟩
      have q85' : v85 = .agg #[.int .i64 0, .int .u64 0, .int .u64 0, .int .u64 0, .int .u64 0, .int .i64 0, .slice none 0 0] := q85
      subst q85'
      unfold Oper.wp execOp
      go_simp
      refine (seq_walk hat84 (at_zero w' 0 rfl)).mono ?_
      rintro e wn ⟨zz, rfl, hat, hbn⟩
      exact hK _ _ (hB.trans (hbn.mono hB.size)) (KeepsC.of_below hbn) ⟨zz, rfl, hat⟩
    refine AllG.cons (k' := 88) rfl ?_ ?_
    · intro a' w' hB hk hin Kc hK
      obtain ⟨v86, e86, q86⟩ := hin 86 _ 104 rfl rfl ⟨{ on := 86, ground := .data }, by simp, rfl, rfl⟩
      obtain ⟨zs86, r86, hat86⟩ := q86
      subst r86
      unfold Oper.wp execOp
      go_simp
      refine (first_eq hat86 F13.out).mono ?_
      rintro e wn ⟨rfl, hbn⟩
      exact hK _ _ (hB.trans (hbn.mono hB.size)) (KeepsC.of_below hbn) rfl
    refine AllG.cons (k' := 89) rfl ?_ ?_
    · intro a' w' hB hk hin Kc hK
      unfold Oper.wp execOp
      go_simp
      refine (of_eq (bytes_nil w' _ _) HsE.out).mono ?_
      rintro e wn ⟨rfl, hbn⟩
      exact hK _ _ (hB.trans (hbn.mono hB.size)) (KeepsC.of_below hbn) rfl
    refine AllG.cons (k' := 90) rfl ?_ ?_
    · intro a' w' hB hk hin Kc hK
      obtain ⟨v87, e87, q87⟩ := hin 87 _ 105 rfl rfl ⟨{ on := 87, ground := .data }, by simp, rfl, rfl⟩
      have q87' : v87 = SV sE := q87
      subst q87'
      obtain ⟨v88, e88, q88⟩ := hin 88 _ 106 rfl rfl ⟨{ on := 88, ground := .data }, by simp, rfl, rfl⟩
      have q88' : v88 = SV sE := q88
      subst q88'
      unfold Oper.wp execOp
      go_simp
      exact hK _ _ (hB) (KeepsC.of_below (Below.refl _ _)) rfl
    refine AllG.cons (k' := 91) rfl ?_ ?_
    · intro a' w' hB hk hin Kc hK
      obtain ⟨v89, e89, q89⟩ := hin 82 _ 100 rfl rfl ⟨{ on := 82, ground := .data }, by simp, rfl, rfl⟩
      have q89' : v89 = .bool true := q89
      subst q89'
      obtain ⟨v90, e90, q90⟩ := hin 89 _ 107 rfl rfl ⟨{ on := 89, ground := .data }, by simp, rfl, rfl⟩
      have q90' : v90 = .bool true := q90
      subst q90'
      unfold Oper.wp execOp
      go_simp
      exact hK _ _ (hB) (KeepsC.of_below (Below.refl _ _)) rfl
    refine AllG.cons (k' := 92) rfl ?_ ?_
    · intro a' w' hB hk hin Kc hK
      obtain ⟨v91, e91, q91⟩ := hin 90 _ 108 rfl rfl ⟨{ on := 90, ground := .data }, by simp, rfl, rfl⟩
      have q91' : v91 = .bool true := q91
      subst q91'
      unfold Oper.wp execOp
      go_simp
      exact hK _ _ (hB) (KeepsC.of_below (Below.refl _ _)) rfl
    refine AllG.cons (k' := 93) rfl ?_ ?_
    · intro a' w' hB hk hin Kc hK
      unfold Oper.wp execOp
      go_simp
      exact hK _ _ (hB) (KeepsC.of_below (Below.refl _ _)) rfl
    refine AllG.cons (k' := 94) rfl ?_ ?_
    · intro a' w' hB hk hin Kc hK
      unfold Oper.wp execOp
      go_simp
      exact hK _ _ (hB.alloc hB.size _) (KeepsC.of_below ((Below.refl _ _).alloc (Nat.le_refl _) _)) ⟨w'.heap.size, _, _, rfl, World.alloc_heap_new _ _, bytes_lit w' [97] #[.int .u8 97] rfl (by decide) (by decide), hB.size⟩
    refine AllG.cons (k' := 95) rfl ?_ ?_
    · intro a' w' hB hk hin Kc hK
      obtain ⟨v92, e92, q92⟩ := hin 93 _ 111 rfl rfl ⟨{ on := 93, ground := .data }, by simp, rfl, rfl⟩
      obtain ⟨b92, cs92, f92, r92, hh92, hy92, hz92⟩ := q92
      subst r92
      refine wp_conv_any _ rfl b92 _ _ cs92 _ f92 (eval_tmpK e92) hh92 ?_
      intro w2 ho2 hc2 hkp
      exact hK _ _ (ho2.below hB hz92) hkp ⟨_, _, _, rfl, bytesAt_cells hy92 hc2 (Nat.le_of_eq ho2.size.symm)⟩
    refine AllG.cons (k' := 96) rfl ?_ ?_
    · intro a' w' hB hk hin Kc hK
      obtain ⟨v93, e93, q93⟩ := hin 92 _ 110 rfl rfl ⟨{ on := 92, ground := .data }, by simp, rfl, rfl⟩
      have q93' : v93 = .agg #[.int .i64 2, .int .u64 0, .int .u64 0, .int .u64 0, .int .u64 0, .int .i64 0, .slice none 0 0] := q93
      subst q93'
      obtain ⟨v94, e94, q94⟩ := hin 94 _ 112 rfl rfl ⟨{ on := 94, ground := .data }, by simp, rfl, rfl⟩
      obtain ⟨p94, n94, c94, r94, hy94⟩ := q94
      subst r94
      unfold Oper.wp execOp
      go_simp
      refine (says_eq (at_zero w' 2 rfl) hy94 F14.out).mono ?_
      rintro e wn ⟨rfl, hbn⟩
      exact hK _ _ (hB.trans (hbn.mono hB.size)) (KeepsC.of_below hbn) rfl
    refine AllG.cons (k' := 97) rfl ?_ ?_
    · intro a' w' hB hk hin Kc hK
      obtain ⟨v95, e95, q95⟩ := hin 95 _ 113 rfl rfl ⟨{ on := 95, ground := .data }, by simp, rfl, rfl⟩
      have q95' : v95 = .bool false := q95
      subst q95'
      unfold Oper.wp execOp
      go_simp
      exact hK _ _ (hB) (KeepsC.of_below (Below.refl _ _)) rfl
    refine AllG.cons (k' := 98) rfl ?_ ?_
    · intro a' w' hB hk hin Kc hK
      obtain ⟨v96, e96, q96⟩ := hin 91 _ 109 rfl rfl ⟨{ on := 91, ground := .data }, by simp, rfl, rfl⟩
      have q96' : v96 = .bool true := q96
      subst q96'
      obtain ⟨v97, e97, q97⟩ := hin 96 _ 114 rfl rfl ⟨{ on := 96, ground := .data }, by simp, rfl, rfl⟩
      have q97' : v97 = .bool true := q97
      subst q97'
      unfold Oper.wp execOp
      go_simp
      exact hK _ _ (hB) (KeepsC.of_below (Below.refl _ _)) rfl
    refine AllG.cons (k' := 99) rfl ?_ ?_
    · intro a' w' hB hk hin Kc hK
      obtain ⟨v98, e98, q98⟩ := hin 97 _ 115 rfl rfl ⟨{ on := 97, ground := .data }, by simp, rfl, rfl⟩
      have q98' : v98 = .bool true := q98
      subst q98'
      unfold Oper.wp execOp
      go_simp
      exact hK _ _ (hB) (KeepsC.of_below (Below.refl _ _)) rfl
    refine AllG.cons (k' := 100) rfl ?_ ?_
    · intro a' w' hB hk hin Kc hK
      unfold Oper.wp execOp
      go_simp
      exact hK _ _ (hB.alloc hB.size _) (KeepsC.of_below ((Below.refl _ _).alloc (Nat.le_refl _) _)) ⟨w'.heap.size, _, _, rfl, World.alloc_heap_new _ _, bytes_lit w' [97] #[.int .u8 97] rfl (by decide) (by decide), hB.size⟩
    refine AllG.cons (k' := 101) rfl ?_ ?_
    · intro a' w' hB hk hin Kc hK
      obtain ⟨v99, e99, q99⟩ := hin 99 _ 117 rfl rfl ⟨{ on := 99, ground := .data }, by simp, rfl, rfl⟩
      obtain ⟨b99, cs99, f99, r99, hh99, hy99, hz99⟩ := q99
      subst r99
      unfold Oper.wp execOp
      go_simp
      refine (ch_eq hy99 HsA.out).mono ?_
      rintro e wn ⟨zz, rfl, hat, hbn⟩
      exact hK _ _ (hB.trans (hbn.mono hB.size)) (KeepsC.of_below hbn) ⟨zz, rfl, hat⟩
    refine AllG.cons (k' := 102) rfl ?_ ?_
    · intro a' w' hB hk hin Kc hK
      obtain ⟨v100, e100, q100⟩ := hin 100 _ 118 rfl rfl ⟨{ on := 100, ground := .data }, by simp, rfl, rfl⟩
      obtain ⟨zs100, r100, hat100⟩ := q100
      subst r100
      unfold Oper.wp execOp
      go_simp
      refine (star_walk hat100).mono ?_
      rintro e wn ⟨zz, rfl, hat, hbn⟩
      exact hK _ _ (hB.trans (hbn.mono hB.size)) (KeepsC.of_below hbn) ⟨zz, rfl, hat⟩
    refine AllG.cons (k' := 103) rfl ?_ ?_
    · intro a' w' hB hk hin Kc hK
      obtain ⟨v101, e101, q101⟩ := hin 101 _ 119 rfl rfl ⟨{ on := 101, ground := .data }, by simp, rfl, rfl⟩
      obtain ⟨zs101, r101, hat101⟩ := q101
      subst r101
      unfold Oper.wp execOp
      go_simp
      refine (star_walk hat101).mono ?_
      rintro e wn ⟨zz, rfl, hat, hbn⟩
      exact hK _ _ (hB.trans (hbn.mono hB.size)) (KeepsC.of_below hbn) ⟨zz, rfl, hat⟩
    refine AllG.cons (k' := 104) rfl ?_ ?_
    · intro a' w' hB hk hin Kc hK
      unfold Oper.wp execOp
      go_simp
      exact hK _ _ (hB.alloc hB.size _) (KeepsC.of_below ((Below.refl _ _).alloc (Nat.le_refl _) _)) ⟨w'.heap.size, _, _, rfl, World.alloc_heap_new _ _, bytes_lit w' [97, 97, 97] #[.int .u8 97, .int .u8 97, .int .u8 97] rfl (by decide) (by decide), hB.size⟩
    refine AllG.cons (k' := 105) rfl ?_ ?_
    · intro a' w' hB hk hin Kc hK
      obtain ⟨v102, e102, q102⟩ := hin 103 _ 121 rfl rfl ⟨{ on := 103, ground := .data }, by simp, rfl, rfl⟩
      obtain ⟨b102, cs102, f102, r102, hh102, hy102, hz102⟩ := q102
      subst r102
      refine wp_conv_any _ rfl b102 _ _ cs102 _ f102 (eval_tmpK e102) hh102 ?_
      intro w2 ho2 hc2 hkp
      exact hK _ _ (ho2.below hB hz102) hkp ⟨_, _, _, rfl, bytesAt_cells hy102 hc2 (Nat.le_of_eq ho2.size.symm)⟩
    refine AllG.cons (k' := 106) rfl ?_ ?_
    · intro a' w' hB hk hin Kc hK
      obtain ⟨v103, e103, q103⟩ := hin 102 _ 120 rfl rfl ⟨{ on := 102, ground := .data }, by simp, rfl, rfl⟩
      obtain ⟨zs103, r103, hat103⟩ := q103
      subst r103
      obtain ⟨v104, e104, q104⟩ := hin 104 _ 122 rfl rfl ⟨{ on := 104, ground := .data }, by simp, rfl, rfl⟩
      obtain ⟨p104, n104, c104, r104, hy104⟩ := q104
      subst r104
      unfold Oper.wp execOp
      go_simp
      refine (says_eq hat103 hy104 F15.out).mono ?_
      rintro e wn ⟨rfl, hbn⟩
      exact hK _ _ (hB.trans (hbn.mono hB.size)) (KeepsC.of_below hbn) rfl
    refine AllG.cons (k' := 107) rfl ?_ ?_
    · intro a' w' hB hk hin Kc hK
      obtain ⟨v105, e105, q105⟩ := hin 98 _ 116 rfl rfl ⟨{ on := 98, ground := .data }, by simp, rfl, rfl⟩
      have q105' : v105 = .bool true := q105
      subst q105'
      obtain ⟨v106, e106, q106⟩ := hin 105 _ 123 rfl rfl ⟨{ on := 105, ground := .data }, by simp, rfl, rfl⟩
      have q106' : v106 = .bool true := q106
      subst q106'
      unfold Oper.wp execOp
      go_simp
      exact hK _ _ (hB) (KeepsC.of_below (Below.refl _ _)) rfl
    refine AllG.cons (k' := 108) rfl ?_ ?_
    · intro a' w' hB hk hin Kc hK
      obtain ⟨v107, e107, q107⟩ := hin 106 _ 124 rfl rfl ⟨{ on := 106, ground := .data }, by simp, rfl, rfl⟩
      have q107' : v107 = .bool true := q107
      subst q107'
      unfold Oper.wp execOp
      go_simp
      exact hK _ _ (hB) (KeepsC.of_below (Below.refl _ _)) rfl
    exact AllG.nil
   case hend =>
    intro a' w' hB hdef hsz hk hvals
    obtain ⟨v, hv, hvt⟩ := hvals 107 _ 0 rfl rfl
    have hvt' : v = .bool true := hvt
    subst hvt'
    have hf0 : a'.tmps.getD 0 undef = .bool true := by rw [Array.getD_eq_getD_getElem?, hv]; rfl
    have heq := act_eq hdef hsz hk
    refine hMet a' w' (Met.intro (hR a' w' ?_))
    refine ⟨a'.tmps.getD 0 undef, a'.tmps.getD 18 undef, a'.tmps.getD 19 undef, a'.tmps.getD 20 undef, a'.tmps.getD 21 undef, a'.tmps.getD 22 undef, a'.tmps.getD 23 undef, a'.tmps.getD 24 undef, a'.tmps.getD 25 undef, a'.tmps.getD 26 undef, a'.tmps.getD 27 undef, a'.tmps.getD 28 undef, a'.tmps.getD 29 undef, a'.tmps.getD 30 undef, a'.tmps.getD 31 undef, a'.tmps.getD 32 undef, a'.tmps.getD 33 undef, a'.tmps.getD 34 undef, a'.tmps.getD 35 undef, a'.tmps.getD 36 undef, a'.tmps.getD 37 undef, a'.tmps.getD 38 undef, a'.tmps.getD 39 undef, a'.tmps.getD 40 undef, a'.tmps.getD 41 undef, a'.tmps.getD 42 undef, a'.tmps.getD 43 undef, a'.tmps.getD 44 undef, a'.tmps.getD 45 undef, a'.tmps.getD 46 undef, a'.tmps.getD 47 undef, a'.tmps.getD 48 undef, a'.tmps.getD 49 undef, a'.tmps.getD 50 undef, a'.tmps.getD 51 undef, a'.tmps.getD 52 undef, a'.tmps.getD 53 undef, a'.tmps.getD 54 undef, a'.tmps.getD 55 undef, a'.tmps.getD 56 undef, a'.tmps.getD 57 undef, a'.tmps.getD 58 undef, a'.tmps.getD 59 undef, a'.tmps.getD 60 undef, a'.tmps.getD 61 undef, a'.tmps.getD 62 undef, a'.tmps.getD 63 undef, a'.tmps.getD 64 undef, a'.tmps.getD 65 undef, a'.tmps.getD 66 undef, a'.tmps.getD 67 undef, a'.tmps.getD 68 undef, a'.tmps.getD 69 undef, a'.tmps.getD 70 undef, a'.tmps.getD 71 undef, a'.tmps.getD 72 undef, a'.tmps.getD 73 undef, a'.tmps.getD 74 undef, a'.tmps.getD 75 undef, a'.tmps.getD 76 undef, a'.tmps.getD 77 undef, a'.tmps.getD 78 undef, a'.tmps.getD 79 undef, a'.tmps.getD 80 undef, a'.tmps.getD 81 undef, a'.tmps.getD 82 undef, a'.tmps.getD 83 undef, a'.tmps.getD 84 undef, a'.tmps.getD 85 undef, a'.tmps.getD 86 undef, a'.tmps.getD 87 undef, a'.tmps.getD 88 undef, a'.tmps.getD 89 undef, a'.tmps.getD 90 undef, a'.tmps.getD 91 undef, a'.tmps.getD 92 undef, a'.tmps.getD 93 undef, a'.tmps.getD 94 undef, a'.tmps.getD 95 undef, a'.tmps.getD 96 undef, a'.tmps.getD 97 undef, a'.tmps.getD 98 undef, a'.tmps.getD 99 undef, a'.tmps.getD 100 undef, a'.tmps.getD 101 undef, a'.tmps.getD 102 undef, a'.tmps.getD 103 undef, a'.tmps.getD 104 undef, a'.tmps.getD 105 undef, a'.tmps.getD 106 undef, a'.tmps.getD 107 undef, a'.tmps.getD 108 undef, a'.tmps.getD 109 undef, a'.tmps.getD 110 undef, a'.tmps.getD 111 undef, a'.tmps.getD 112 undef, a'.tmps.getD 113 undef, a'.tmps.getD 114 undef, a'.tmps.getD 115 undef, a'.tmps.getD 116 undef, a'.tmps.getD 117 undef, a'.tmps.getD 118 undef, a'.tmps.getD 119 undef, a'.tmps.getD 120 undef, a'.tmps.getD 121 undef, a'.tmps.getD 122 undef, a'.tmps.getD 123 undef, a'.tmps.getD 124 undef, ⟨hf0, hB⟩, heq.trans ?_⟩
    kernel_rfl
  case rest =>
   obtain ⟨rfl, hBc⟩ := hcut
   have Hfin := Lib.hid (HW.out.trans (hBc.mono HW.out.size))
   clear hBc
   go_wp2_with fail
   go_ret
   exact ⟨rfl, Hfin.out⟩
end Go.Proofs.Ytobhjfhmhhahoaa
