/- RefArr, RefQuiet, as one. -/
import Derived.Test.YtblgjcolmaidlaaSetAll
import Derived.Laws.Rows
import Derived.Test.YtblgjcolmaidlaaLater
namespace Go.Proofs.Ytblgjcolmaidlaa
set_option maxRecDepth 100000
open Go.RowKit

/-- the cells of an array of 256 bools -/
def bc (f : Nat → Bool) : Array Value := ((List.range 256).map fun i => Value.bool (f i)).toArray
/-- the array as the program holds it -/
abbrev BV (f : Nat → Bool) : Value := .agg (bc f)
theorem bc_size (f : Nat → Bool) : (bc f).size = 256 := by simp [bc]
theorem bc_get (f : Nat → Bool) (j : Nat) (h : j < 256) : (bc f)[j]? = some (.bool (f j)) := by
  simp [bc, List.getElem?_map, List.getElem?_range h]
theorem bc_ext (f g : Nat → Bool) (h : ∀ j, j < 256 → f j = g j) : bc f = bc g := by
  unfold bc
  congr 1
  apply List.map_congr_left
  intro j hj
  rw [h j (List.mem_range.1 hj)]
theorem BV_ext {f g : Nat → Bool} (h : ∀ j, j < 256 → f j = g j) : BV f = BV g := by unfold BV; rw [bc_ext f g h]
theorem bc_set (f : Nat → Bool) (j : Nat) (v : Bool) (h : j < 256) : (bc f).setIfInBounds j (.bool v) = bc (fun i => if i = j then v else f i) := by
  apply Array.ext_getElem?
  intro i
  rw [Array.getElem?_setIfInBounds]
  by_cases hi : i < 256
  · rw [bc_get _ i hi, bc_get _ i hi]
    by_cases hij : j = i
    · subst hij; simp [bc_size, h]
    · rw [if_neg hij, if_neg (fun e => hij e.symm)]
  · have h1 : (bc f)[i]? = none := Array.getElem?_eq_none (by rw [bc_size]; omega)
    have h2 : (bc fun i => if i = j then v else f i)[i]? = none := Array.getElem?_eq_none (by rw [bc_size]; omega)
    rw [h1, h2, if_neg (by omega)]
theorem bc_one (f : Nat → Bool) : (bc f).all (·.oneCell') = true := by
  rw [Array.all_eq_true_iff_forall_mem]
  intro v hv
  simp [bc] at hv
  obtain ⟨i, _, rfl⟩ := hv
  rfl
theorem below_row {B g : Nat} {a w : World} (h : Below B a w) (hB : B ≤ g) (cs : Array Value) : Below B a (w.setRow g cs) :=
  h.trans ⟨rfl, rfl, rfl, by simp, fun k hk => setRow_other w g k cs (by omega)⟩
def bNone : Nat → Bool := fun _ => false
end Go.Proofs.Ytblgjcolmaidlaa
namespace Go.Proofs.Ytblgjcolmaidlaa
set_option maxRecDepth 100000
open Go.RowKit

end Go.Proofs.Ytblgjcolmaidlaa
