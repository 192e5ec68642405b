/- Lists of bytes as whoever reads them wants them told; the texts made of them. -/
import Derived.Test.YtaanhijjhllckaaSetAll
import Derived.Test.YtaanhijjhllckaaLater
import Derived.Lib.BytesEntry
namespace Go.Proofs.Ytaanhijjhllckaa
set_option maxRecDepth 100000
open Go.RowKit

def toBytes (l : List Nat) : List UInt8 := l.map UInt8.ofNat
theorem bytesAt_of_owns {w w' : World} {base : Nat} {a : Option Addr} {cap : Nat} {l : List Nat} (h : w.ownsRow base 5 1 (.slice a l.length cap) l.length (l.map u8v)) (hlt : ∀ x ∈ l, x < 256) (hb : Below w.heap.size w w') :
    BytesAt w' a l.length cap l := by
  have hrow := h.2
  rcases hrow with ⟨hv, h0⟩ | ⟨g, c, cur, hv, hg, hblk, hnc, hcm, _⟩
  · exact ⟨rfl, hlt, by unfold maxLen; omega, .inl h0⟩
  · cases hv
    have hgl := lt_of_block hblk
    refine ⟨rfl, hlt, by omega, .inr ⟨g, 0, rfl, hnc, by have := hb.size; omega, fun j hj => ?_⟩⟩
    rw [Nat.zero_add, hb.cell (p := ⟨g, j, none⟩) hgl, h.cellAt j (by omega), List.getElem?_map, List.getElem?_eq_getElem hj, List.getD_eq_getElem?_getD, List.getElem?_eq_getElem hj]
    rfl
/-- a new list, as whoever reads it wants it told: now, and behind whatever comes that leaves it alone -/
def ListAt (w : World) (l : List Nat) (e : Ending) (w' : World) : Prop :=
  ∃ a cap, e = .returned (.slice a l.length cap) ∧ Below w.heap.size w w' ∧ ∀ w2, Below w'.heap.size w' w2 → BytesAt w2 a l.length cap l
theorem strOf_nats (l : List Nat) : strOfNums (l.map fun (x : Nat) => (x : Int)) = ⟨(toBytes l).toArray⟩ := by
  apply ByteArray.ext
  apply Array.toList_inj.1
  rw [strOfNums_data]
  simp [toBytes]
theorem string_at {w : World} {a : Option Addr} {n cap : Nat} {l : List Nat} (h : BytesAt w a n cap l) : (convert 72 9 (.slice a n cap)).run Try.prog w = .ok (.string ⟨(toBytes l).toArray⟩) w := by
  obtain ⟨hn, hlt, _, hc⟩ := h
  by_cases h0 : n = 0
  · subst h0
    have : l = [] := List.length_eq_zero_iff.1 hn.symm
    subst this
    cases a with
    | none => exact run_convert_bytes_nil _ _ _ Try.underlying72 Try.underlying5 _ _ _ Try.underlying9
    | some a =>
      rw [run_convert_bytes_string w _ _ _ _ _ _ Try.underlying72 Try.underlying5 Try.underlying9]
      simp [Conv.bytesToString, loadCells, toBytes]
      rfl
  · rcases hc with h | ⟨b, off, rfl, _, _, hcell⟩
    · exact absurd h h0
    · rw [← strOf_nats]
      refine run_convert_bytes_arg _ _ _ Try.underlying72 Try.underlying5 b off n cap _ (by simp [hn]) (fun i hi => ?_) _ Try.underlying9
      rw [hcell i hi]
      simp [u8v, List.getD_eq_getElem?_getD, List.getElem?_map]
      rw [List.getElem?_eq_getElem (by omega)]
      rfl
theorem quiet_string {o : Oper} {a : Act} {C : World → Prop} {K : Act → Prop} (x : Operand) (ho : o.op = .convert 72 9 x) (p : Option Addr) (n cap : Nat) (hx : a.eval x = .slice p n cap) (l : List Nat)
    (h : ∀ w, C w → BytesAt w p n cap l) (hK : K (a.put o.dst (.string ⟨(toBytes l).toArray⟩))) : o.quiet Try.prog a C K :=
  ⟨.string ⟨(toBytes l).toArray⟩, fun w hw => by
    unfold Oper.quietAt execOp
    simp only [ho, hx, Sem.run_bind, Sem.run_pure, Result.andThen_ok, string_at (h w hw)]
    exact ⟨rfl, rfl⟩, hK⟩
theorem bytes_lit (w : World) (l : List Nat) (cs : Array Value) (h : cs.toList = l.map u8v) (hl : ∀ x ∈ l, x < 256) (hn : l.length ≤ maxLen) : BytesAt (w.alloc (.cells cs 5)) (some ⟨w.heap.size, 0, none⟩) l.length l.length l := by
  refine ⟨rfl, hl, hn, .inr ⟨w.heap.size, 0, rfl, Nat.le_refl _, by simp, fun j hj => ?_⟩⟩
  have hc : cs[j]? = some (u8v (l.getD j 0)) := by
    rw [← Array.getElem?_toList, h, List.getElem?_map, List.getElem?_eq_getElem hj, List.getD_eq_getElem?_getD, List.getElem?_eq_getElem hj]; rfl
  simp [hc]
theorem bytes_keep {w w' : World} {a : Option Addr} {n cap : Nat} {l : List Nat} (h : BytesAt w a n cap l) (hb : Below w.heap.size w w') : BytesAt w' a n cap l := by
  obtain ⟨h1, h2, h3, h4⟩ := h
  refine ⟨h1, h2, h3, ?_⟩
  rcases h4 with h4 | ⟨b, off, e, hc, hlt, hr⟩
  · exact .inl h4
  · exact .inr ⟨b, off, e, hc, Nat.lt_of_lt_of_le hlt hb.size, fun j hj => (hb.cell (p := ⟨b, off + j, none⟩) hlt).trans (hr j hj)⟩
end Go.Proofs.Ytaanhijjhllckaa
