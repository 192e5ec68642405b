/- Cores copied into the document's own. -/
import Derived.Test.YtblgjcolmaidlaaRefCore
import Derived.Test.YtblgjcolmaidlaaRefSmall
import Derived.Test.YtblgjcolmaidlaaCoreKit
import Derived.Test.YtblgjcolmaidlaaBlockMem
import Derived.Test.YtblgjcolmaidlaaFree
import Derived.Maps.AppendAt
import Derived.Deep.DeepCutAuto
namespace Go.Proofs.Ytblgjcolmaidlaa.K
set_option maxRecDepth 100000
open Go.RowKit
/-- a world of which only the blocks with p can be read -/
def veil (p : Nat → Bool) (w : World) : World := { w with heap := w.heap.mapIdx fun i o => if p i then o else .deferred none }
theorem veil_size (p : Nat → Bool) (w : World) : (veil p w).heap.size = w.heap.size := by simp [veil]
theorem veil_block {p : Nat → Bool} {w : World} {k : Nat} (h : p k = true) : (veil p w).heap[k]? = w.heap[k]? := by
  simp only [veil, Array.getElem?_mapIdx]
  cases hk : w.heap[k]? with
  | none => rfl
  | some o => simp [h]
theorem veil_cell {p : Nat → Bool} {w : World} {a : Addr} {v : Value} (h : (veil p w).cell? a = some v) : p a.block = true ∧ w.cell? a = some v := by
  cases hp : p a.block with
  | true => exact ⟨rfl, by rw [← h]; exact (World.cell?_of_block (veil_block hp)).symm⟩
  | false =>
    exfalso
    unfold World.cell? at h
    simp only [veil, Array.getElem?_mapIdx] at h
    cases hk : w.heap[a.block]? with
    | none => rw [hk] at h; cases h
    | some o => rw [hk] at h; simp [hp] at h
/-- a node of the document's own that hangs on blocks with p alone -/
def RefIn (p : Nat → Bool) (w : World) (x : Cr) (cs : List Value) : Prop := Cr.ref (veil p w) x cs
theorem RefIn.mono {p q : Nat → Bool} {w w' : World} {x : Cr} {cs : List Value} (h : RefIn p w x cs) (hs : w.heap.size ≤ w'.heap.size) (hk : ∀ k, p k = true → k < w.heap.size → q k = true ∧ w'.heap[k]? = w.heap[k]?) : RefIn q w' x cs := by
  refine Cr.ref_same (fun a v ha => ?_) (by rw [veil_size, veil_size]; exact hs) x cs h
  obtain ⟨h1, h2⟩ := veil_cell ha
  have h3 := hk _ h1 (World.block_lt_of_cell? w _ h2)
  rw [World.cell?_of_block (veil_block h3.1), World.cell?_of_block h3.2]
  exact h2
theorem RefIn.ref {p : Nat → Bool} {w : World} {x : Cr} {cs : List Value} (h : RefIn p w x cs) : Cr.ref w x cs :=
  Cr.ref_same (fun _ _ ha => (veil_cell ha).2) (by rw [veil_size]; exact Nat.le_refl _) x cs h
theorem refIn_len {p : Nat → Bool} {w : World} {x : Cr} {cs : List Value} (h : RefIn p w x cs) : cs.length = 259 := refc_len h.ref
/-- the zero node of the document's own -/
def zero259 : Array Value := (rcCells 0 0 0 (.slice none 0 0)).toArray
theorem zero259_size : zero259.size = 259 := by unfold zero259; rw [List.size_toArray]; exact rcCells_length ..
theorem rcCells_size (k : Int) (s : BitVec 256) (n : Int) (v : Value) : (rcCells k s n v).toArray.size = 259 := by rw [List.size_toArray]; exact rcCells_length ..
theorem rd_one (k : Int) (s : BitVec 256) (n : Int) (v : Value) (hv : v.oneCell' = true) : ((rcCells k s n v).toArray.all fun x => x.oneCell') = true := by
  rw [Array.all_eq_true_iff_forall_mem]
  intro u hu
  rw [List.mem_toArray] at hu
  unfold rcCells at hu
  rw [List.mem_cons, List.mem_append] at hu
  rcases hu with rfl | hu | hu
  · rfl
  · exact Array.all_eq_true_iff_forall_mem.1 (bc_one s.getLsbD) u (Array.mem_toList_iff.1 hu)
  · simp only [List.mem_cons, List.not_mem_nil, or_false] at hu
    rcases hu with rfl | rfl
    · rfl
    · exact hv
theorem foldl_put_zip : ∀ (l : List Value) (k : Nat) (Z : Array Value), Z.size = k + l.length → (l.zipIdx k).foldl (fun cs x => cs.setIfInBounds (0 + x.2) x.1) Z = (Z.toList.take k ++ l).toArray
  | [], k, Z, h => by
    simp at h
    simp [← h, ← Array.length_toList]
  | v :: l, k, Z, h => by
    rw [List.zipIdx_cons, List.foldl_cons, foldl_put_zip l (k + 1) _ (by simp at h ⊢; omega)]
    congr 1
    simp only [Nat.zero_add, Array.toList_setIfInBounds]
    rw [List.take_succ_eq_append_getElem (by simp at h ⊢; omega), List.take_set_of_le (by omega)]
    simp
theorem coresRef_cells {W : World} {b : Nat} : ∀ (L : List (Cr × List Value)) (off : Nat), (∀ p ∈ L, Cr.ref W p.1 p.2) → (∀ q, q < L.length * 259 → W.cell? ⟨b, off + q, none⟩ = (L.flatMap (·.2))[q]?) → coresRef W (L.map (·.1)) b off
  | [], off, _, _ => by rw [List.map_nil, coresRef_nil]; trivial
  | p :: L, off, h, hc => by
    rw [List.map_cons, coresRef_cons]
    have hp := refc_len (h p (by simp))
    refine ⟨⟨p.2, hp, fun q hq => ?_, h p (by simp)⟩, coresRef_cells L (off + 259) (fun r hr => h r (by simp [hr])) fun q hq => ?_⟩
    · rw [hc q (by simp; omega), List.flatMap_cons, List.getElem?_append_left (by omega)]
    · rw [Nat.add_assoc, hc (259 + q) (by simp; omega), List.flatMap_cons, List.getElem?_append_right (by omega)]
      congr 1
      omega
theorem fill_refcore (rs : List Value) (h : rs.length = 259) (Z : Array Value) (hZ : Z.size = 259) : Instr.fill (fun i => some (i * 259, 259)) Z [(0, .agg rs.toArray)] = some rs.toArray := by
  have hcs : (Value.agg rs.toArray).cells = rs.toArray := rfl
  simp only [Instr.fill, hcs, List.size_toArray, h, hZ]
  simp only [Nat.zero_mul, Nat.zero_add, ne_eq, not_true_eq_false, decide_false, Bool.false_or, gt_iff_lt, Nat.lt_irrefl, Bool.false_eq_true, if_false, Option.some.injEq]
  rw [← Array.foldl_toList, Array.toList_zipIdx]
  have := foldl_put_zip rs 0 Z (by rw [h, hZ])
  simpa using this
theorem ref_one_cells {p : Nat → Bool} {w : World} {x : Cr} {cs : List Value} (h : RefIn p w x cs) : ∀ u ∈ cs, u.oneCell' = true := by
  cases x with
  | mk k s n l =>
    unfold RefIn at h
    rw [refc_mk] at h
    obtain ⟨_, _, a, cap, rfl, _⟩ := h
    intro u hu
    exact Array.all_eq_true_iff_forall_mem.1 (rd_one k s n _ rfl) u (by simpa using hu)
theorem rd_set (k : Int) (s : BitVec 256) (n : Int) (v u : Value) : (rcCells k s n v).toArray.setIfInBounds 258 u = (rcCells k s n u).toArray := by
  unfold rcCells
  rw [List.setIfInBounds_toArray, List.set_cons_succ, List.set_append_right _ _ (by rw [Array.length_toList, bc_size]; decide), Array.length_toList, bc_size]
  rfl
/-- no list of the node is too long -/
def slimN : Nat → Cr → Bool
  | 0, _ => false
  | f + 1, .mk _ _ _ l => decide (l.length ≤ 100000) && l.all (slimN f)
end Go.Proofs.Ytblgjcolmaidlaa.K
