/- The bytes of a string, as numbers. -/
import Derived.Test.YtblgjcolmaidlaaShelf
import Derived.Test.YtblgjcolmaidlaaText
import Derived.Test.YtblgjcolmaidlaaSetAll
namespace Go.Proofs.Ytblgjcolmaidlaa
set_option maxRecDepth 100000
open Go.RowKit
/-- a text's bytes -/
def nats (s : ByteArray) : List Nat := s.data.toList.map UInt8.toNat
theorem nats_length (s : ByteArray) : (nats s).length = s.size := by rw [nats, List.length_map, ← Lib.size_eq]
theorem nats_add (x y : ByteArray) : nats (x ++ y) = nats x ++ nats y := by
  unfold nats
  rw [ByteArray.data_append, Array.toList_append, List.map_append]
theorem of_nats {t u : ByteArray} (h : nats t = nats u) : t = u := by
  unfold nats at h
  have h2 := List.map_inj_right (f := UInt8.toNat) (fun a b h => UInt8.toNat_inj.1 h) |>.1 h
  exact ByteArray.ext (Array.ext' h2)
theorem eq_list (a b : ByteArray) : (a.toList == b.toList) = decide (nats a = nats b) := by
  rw [Bool.eq_iff_iff, beq_iff_eq, decide_eq_true_eq, Lib.toList_data, Lib.toList_data]
  constructor
  · intro h; unfold nats; rw [h]
  · intro h; rw [of_nats h]
theorem eq_list_lit (a : ByteArray) (l : List UInt8) : (a.toList == l) = decide (nats a = l.map UInt8.toNat) := by
  have h := eq_list a ⟨l.toArray⟩
  rw [Lib.toList_data ⟨l.toArray⟩] at h
  rw [show (⟨l.toArray⟩ : ByteArray).data.toList = l from by simp] at h
  rw [h, show nats ⟨l.toArray⟩ = l.map UInt8.toNat from by simp [nats]]
theorem nats_lt (t : ByteArray) : ∀ x ∈ nats t, x < 256 := by
  intro x hx
  unfold nats at hx
  rw [List.mem_map] at hx
  obtain ⟨u, _, rfl⟩ := hx
  exact UInt8.toNat_lt _
theorem size_nats {t : ByteArray} {l : List Nat} (h : nats t = l) : t.size = l.length := by rw [← h, nats_length]
theorem nats_bytes {l : List Nat} (h : ∀ x ∈ l, x < 256) : nats ⟨(toBytes l).toArray⟩ = l := by
  unfold nats toBytes
  rw [List.toList_toArray, List.map_map]
  conv => rhs; rw [← List.map_id l]
  refine List.map_congr_left fun x hx => ?_
  have := h x hx
  simp [Nat.mod_eq_of_lt this]
end Go.Proofs.Ytblgjcolmaidlaa
