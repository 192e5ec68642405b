/- A literal's bytes turned into []byte: the slice stays; its block is marked behind its cells, and reads as it did. -/
import Derived.Test.YtonhmjfopidacaaDoorText
import Derived.Test.YtonhmjfopidacaaDoorBlockMem
import Derived.Laws.IdiomStrings
namespace Go.Proofs.YtonhmjfopidacaaDoor
set_option maxRecDepth 100000
open Go.RowKit
theorem conv_bytes (b n c : Nat) (cs : Array Value) (t : TypeId) (w : World) (hb : w.heap[b]? = some (.cells cs t (0, 0))) : (convert 75 75 (.slice (some ⟨b, 0, none⟩) n c)).run Tryd.prog w = .ok (.slice (some ⟨b, 0, none⟩) n c) (w.freeze ⟨b, cs.size, none⟩ 1) := by
  have hs : w.shape? b = some (t, cs.size) := by simp [World.shape?, hb]
  simp [convert, run_underlying Tryd.underlying75, run_underlying Tryd.underlying5, markStringish, hs]
theorem freeze_only (w : World) (b k : Nat) : Only b w (w.freeze ⟨b, k, none⟩ 1) := by
  refine ⟨rfl, rfl, rfl, by simp [World.freeze], fun j hj => ?_⟩
  simp only [World.freeze, Nat.one_ne_zero, if_false, Array.getElem?_modify]
  rw [if_neg (fun e => hj e.symm)]
theorem freeze_cell (w : World) (b k : Nat) (p : Addr) : (w.freeze ⟨b, k, none⟩ 1).cell? p = w.cell? p := by
  unfold World.cell?
  simp only [World.freeze, Nat.one_ne_zero, if_false, Array.getElem?_modify]
  by_cases e : b = p.block
  · rw [if_pos e]
    cases h : w.heap[p.block]? with
    | none => rfl
    | some o =>
      cases o with
      | cells c t fr => obtain ⟨lo, hi⟩ := fr; by_cases hl : lo = hi <;> simp [hl]
      | _ => rfl
  · rw [if_neg e]
theorem wp_conv_bytes {o : Oper} {a : Act} {w : World} {K : Act → World → Prop} {Q : Exit → Act → World → Prop} (x : Operand) (ho : o.op = .convert 75 75 x) (b n c : Nat) (cs : Array Value) (t : TypeId)
    (hx : a.eval x = .slice (some ⟨b, 0, none⟩) n c) (hb : w.heap[b]? = some (.cells cs t (0, 0)))
    (h : ∀ w', Only b w w' → (∀ p, w'.cell? p = w.cell? p) → K (a.put o.dst (.slice (some ⟨b, 0, none⟩) n c)) w') : o.wp Tryd.prog a w K Q := by
  unfold Oper.wp execOp
  simp only [ho, hx, Sem.run_bind, Sem.run_pure, Result.andThen_ok, conv_bytes b n c cs t w hb]
  exact h _ (freeze_only _ _ _) (freeze_cell _ _ _)
theorem bytesAt_cells {w w' : World} {a : Option Addr} {n cap : Nat} {l : List Nat} (h : BytesAt w a n cap l) (hc : ∀ p, w'.cell? p = w.cell? p) (hs : w.heap.size ≤ w'.heap.size) : BytesAt w' a n cap l := by
  obtain ⟨h1, h2, h3, h4⟩ := h
  refine ⟨h1, h2, h3, ?_⟩
  rcases h4 with h4 | ⟨b, off, e, e2, e3, e4⟩
  · exact .inl h4
  · exact .inr ⟨b, off, e, e2, Nat.lt_of_lt_of_le e3 hs, fun j hj => (hc _).trans (e4 j hj)⟩
end Go.Proofs.YtonhmjfopidacaaDoor
