/- value.formed, belongs, allBelong, Good, walked for every value and every good core. -/
import Derived.Test.YtblgjcolmaidlaaValOps
import Derived.Test.YtblgjcolmaidlaaCoreGood
import Derived.Test.YtblgjcolmaidlaaCoreKit
import Derived.Test.YtblgjcolmaidlaaLater
import Derived.Test.YtblgjcolmaidlaaSetAll
import Derived.Deep.LoopGhost
import Derived.Deep.DeepCutAuto
namespace Go.Proofs.Ytblgjcolmaidlaa
namespace V
set_option maxRecDepth 100000
open Go.RowKit
/-- a part of a core's list -/
theorem kidC {w : World} {cl : List K.Cr} {ca : Option Addr} {ccap : Nat} (hcl : cl.length = 0 ∨ ∃ b off, ca = some ⟨b, off, none⟩ ∧ cl.length ≤ ccap ∧ b < w.heap.size ∧ K.coresAt w cl b off) (i : Nat) (hi : i < cl.length) :
    ∃ b off cs, ca = some ⟨b, off, none⟩ ∧ b < w.heap.size ∧ cl.length ≤ ccap ∧ K.Core7 w b (off + i * 7) cs ∧ K.Cr.at w cl[i] cs := by
  rcases hcl with h | ⟨b, off, rfl, h1, h2, h3⟩
  · omega
  · obtain ⟨cs, e1, e2, e3⟩ := K.nodes_get w b cl off h3 i hi
    exact ⟨b, off, cs, rfl, h2, h1, ⟨e1, e2⟩, e3⟩
theorem kidV {w : World} {l : List Vl} {a : Option Addr} {cap : Nat} (hl : l.length = 0 ∨ ∃ b off, a = some ⟨b, off, none⟩ ∧ l.length ≤ cap ∧ b < w.heap.size ∧ valsAt w l b off) (i : Nat) (hi : i < l.length) :
    ∃ b off cs, a = some ⟨b, off, none⟩ ∧ b < w.heap.size ∧ l.length ≤ cap ∧ Val3 w b (off + i * 3) cs ∧ Vl.at w l[i] cs := by
  rcases hl with h | ⟨b, off, rfl, h1, h2, h3⟩
  · omega
  · obtain ⟨cs, e1, e2⟩ := vals_get w b l off h3 i hi
    exact ⟨b, off, cs, rfl, h2, h1, e1, e2⟩
theorem kidsC {w : World} {cl : List K.Cr} {ca : Option Addr} {ccap : Nat} (hcl : cl.length = 0 ∨ ∃ b off, ca = some ⟨b, off, none⟩ ∧ cl.length ≤ ccap ∧ b < w.heap.size ∧ K.coresAt w cl b off) (h0 : 0 < cl.length) :
    ∃ b off, ca = some ⟨b, off, none⟩ ∧ b < w.heap.size ∧ cl.length ≤ ccap ∧ ∀ i (hi : i < cl.length), ∃ cs, K.Core7 w b (off + i * 7) cs ∧ K.Cr.at w cl[i] cs := by
  rcases hcl with h | ⟨b, off, rfl, h1, h2, h3⟩
  · omega
  · exact ⟨b, off, rfl, h2, h1, fun i hi => by
      obtain ⟨cs, e1, e2, e3⟩ := K.nodes_get w b cl off h3 i hi
      exact ⟨cs, ⟨e1, e2⟩, e3⟩⟩
theorem kidsV {w : World} {l : List Vl} {a : Option Addr} {cap : Nat} (hl : l.length = 0 ∨ ∃ b off, a = some ⟨b, off, none⟩ ∧ l.length ≤ cap ∧ b < w.heap.size ∧ valsAt w l b off) (h0 : 0 < l.length) :
    ∃ b off, a = some ⟨b, off, none⟩ ∧ b < w.heap.size ∧ l.length ≤ cap ∧ ∀ i (hi : i < l.length), ∃ cs, Val3 w b (off + i * 3) cs ∧ Vl.at w l[i] cs := by
  rcases hl with h | ⟨b, off, rfl, h1, h2, h3⟩
  · omega
  · exact ⟨b, off, rfl, h2, h1, fun i hi => vals_get w b l off h3 i hi⟩
theorem core7_below {w w' : World} {b off : Nat} {cs : List Value} (h : K.Core7 w b off cs) {B : Nat} (hb : b < B) (hB : Below B w w') : K.Core7 w' b off cs :=
  ⟨h.1, fun q hq => by rw [hB.cell (p := ⟨b, off + q, none⟩) hb]; exact h.2 q hq⟩
theorem one_of_len {α : Type} {l : List α} (h : l.length = 1) : ∃ x, l = [x] := by
  match l, h with
  | [x], _ => exact ⟨x, rfl⟩
theorem two_of_len {α : Type} {l : List α} (h : l.length = 2) : ∃ x y, l = [x, y] := by
  match l, h with
  | [x, y], _ => exact ⟨x, y, rfl⟩

end V
end Go.Proofs.Ytblgjcolmaidlaa
