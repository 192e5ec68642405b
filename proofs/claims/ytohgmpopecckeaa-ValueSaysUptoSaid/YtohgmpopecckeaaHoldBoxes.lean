/- Boxes of the document's own cores and values, made and filled in drawn regions. -/
import Derived.Test.YtohgmpopecckeaaHoldKit
import Derived.Test.YtohgmpopecckeaaRefGoods
import Derived.Test.YtohgmpopecckeaaRefVals
namespace Go.Proofs.Ytohgmpopecckeaa
set_option maxRecDepth 100000
open Go.RowKit
theorem wp_alloc_z {o : Oper} {a : Act} {w : World} {K : Act → World → Prop} {Q : Exit → Act → World → Prop} (T : TypeId) (Z : Array Value) (hz : ∀ w, (zeroValue T).run Try.prog w = .ok (.agg Z) w) (ho : o.op = .alloc T)
    (h : K (a.put o.dst (.pointer (some ⟨w.heap.size, 0, none⟩))) (w.alloc (.cells Z T))) : o.wp Try.prog a w K Q := by
  unfold Oper.wp execOp
  simp [ho, Instr.alloc, newVar, hz]
  exact h
/-- k is none of these -/
def notIn (l : List Nat) (k : Nat) : Bool := l.all fun b => decide (k ≠ b)
theorem notIn_cons (b : Nat) (l : List Nat) (k : Nat) : notIn (b :: l) k = (decide (k ≠ b) && notIn l k) := rfl
theorem notIn_nil (k : Nat) : notIn [] k = true := rfl
theorem notIn_ne {l : List Nat} {k b : Nat} (h : notIn l k = true) (hb : b ∈ l) : k ≠ b := by
  unfold notIn at h
  rw [List.all_eq_true] at h
  exact of_decide_eq_true (h b hb)
theorem notIn_above {l : List Nat} {s k : Nat} (hk : s ≤ k) (h : ∀ b ∈ l, b < s) : notIn l k = true := by
  unfold notIn
  rw [List.all_eq_true]
  intro b hb
  exact decide_eq_true (by have := h b hb; omega)
namespace K
theorem refc_start {s0 : Nat} {w : World} {x : Cr} {rs : List Value} (h : RefIn (fun k => decide (s0 ≤ k)) w x rs) (l : List Nat) (hl : ∀ b ∈ l, b < s0) : RefIn (notIn l) w x rs :=
  h.mono (Nat.le_refl _) fun _ hk _ => ⟨notIn_above (of_decide_eq_true hk) hl, rfl⟩
theorem refc_alloc {l : List Nat} {w : World} {x : Cr} {rs : List Value} (h : RefIn (notIn l) w x rs) (o : Obj) : RefIn (notIn (w.heap.size :: l)) (w.alloc o) x rs :=
  h.mono (by simp) fun k hk hlt => ⟨by rw [notIn_cons, hk, decide_eq_true (by omega)]; rfl, Below.heap_alloc w o k hlt⟩
theorem refc_later {l : List Nat} {w w' : World} {x : Cr} {rs : List Value} (h : RefIn (notIn l) w x rs) (hb : Below w.heap.size w w') : RefIn (notIn l) w' x rs :=
  h.mono hb.size fun k hk hlt => ⟨hk, hb.block k hlt⟩
theorem refc_only {l : List Nat} {b : Nat} {w w' : World} {x : Cr} {rs : List Value} (h : RefIn (notIn l) w x rs) (ho : Only b w w') (hb : b ∈ l) : RefIn (notIn l) w' x rs :=
  h.mono (Nat.le_of_eq ho.size.symm) fun k hk _ => ⟨hk, ho.block k (notIn_ne hk hb)⟩
theorem wp_store_rc {o : Oper} {a : Act} {w : World} {K : Act → World → Prop} {Q : Exit → Act → World → Prop} (x y : Operand) (ho : o.op = .store 38 x y) (b : Nat) (cs ds : Array Value) (hx : a.eval x = .pointer (some ⟨b, 0, none⟩)) (hy : a.eval y = .agg ds)
    (hb : RBox w b cs) (hd : ds.size = 259) (hc : cs.size = 259) (h1 : (ds.all fun x => x.oneCell') = true) (hK : ∀ w', RBox w' b ds → Only b w w' → K (a.put o.dst undef) w') : o.wp Try.prog a w K Q :=
  wp_store_row _ _ _ ho b _ hx hy _ _ hb (infoRefCore' hd) (by rw [hd, hc]) h1 (hK _ (setRow_heap w b _ _ _ _ hb) (only_row _ _ _))
theorem refc_in {w : World} {b : Nat} {rs : List Value} (h : RBox w b rs.toArray) (hl : rs.length = 259) : RefC w b 0 rs := ⟨hl, fun q _ => by rw [Nat.zero_add, cells_at h]; simp⟩
theorem one_all {rs : List Value} (h : ∀ u ∈ rs, u.oneCell' = true) : (rs.toArray.all fun x => x.oneCell') = true := by
  rw [List.all_toArray, List.all_eq_true]; exact h
end K
namespace V
theorem refv_start {s0 : Nat} {w : World} {x : Vl} {rs : List Value} (h : RefIn (fun k => decide (s0 ≤ k)) w x rs) (l : List Nat) (hl : ∀ b ∈ l, b < s0) : RefIn (notIn l) w x rs :=
  h.mono (Nat.le_refl _) fun _ hk _ => ⟨notIn_above (of_decide_eq_true hk) hl, rfl⟩
theorem refv_alloc {l : List Nat} {w : World} {x : Vl} {rs : List Value} (h : RefIn (notIn l) w x rs) (o : Obj) : RefIn (notIn (w.heap.size :: l)) (w.alloc o) x rs :=
  h.mono (by simp) fun k hk hlt => ⟨by rw [notIn_cons, hk, decide_eq_true (by omega)]; rfl, Below.heap_alloc w o k hlt⟩
theorem refv_later {l : List Nat} {w w' : World} {x : Vl} {rs : List Value} (h : RefIn (notIn l) w x rs) (hb : Below w.heap.size w w') : RefIn (notIn l) w' x rs :=
  h.mono hb.size fun k hk hlt => ⟨hk, hb.block k hlt⟩
theorem refv_only {l : List Nat} {b : Nat} {w w' : World} {x : Vl} {rs : List Value} (h : RefIn (notIn l) w x rs) (ho : Only b w w') (hb : b ∈ l) : RefIn (notIn l) w' x rs :=
  h.mono (Nat.le_of_eq ho.size.symm) fun k hk _ => ⟨hk, ho.block k (notIn_ne hk hb)⟩
theorem wp_store_rv {o : Oper} {a : Act} {w : World} {K : Act → World → Prop} {Q : Exit → Act → World → Prop} (x y : Operand) (ho : o.op = .store 42 x y) (b : Nat) (cs ds : Array Value) (hx : a.eval x = .pointer (some ⟨b, 0, none⟩)) (hy : a.eval y = .agg ds)
    (hb : RBox w b cs) (hd : ds.size = 3) (hc : cs.size = 3) (h1 : (ds.all fun x => x.oneCell') = true) (hK : ∀ w', RBox w' b ds → Only b w w' → K (a.put o.dst undef) w') : o.wp Try.prog a w K Q :=
  wp_store_row _ _ _ ho b _ hx hy _ _ hb (infoRefVal' hd) (by rw [hd, hc]) h1 (hK _ (setRow_heap w b _ _ _ _ hb) (only_row _ _ _))
theorem refv_in {w : World} {b : Nat} {rs : List Value} (h : RBox w b rs.toArray) (hl : rs.length = 3) : Val3 w b 0 rs := ⟨hl, fun q _ => by rw [Nat.zero_add, cells_at h]; simp⟩
theorem zeroRefVal (w : World) : (zeroValue 42).run Try.prog w = .ok (.agg zero3) w := by kernel_rfl
end V
end Go.Proofs.Ytohgmpopecckeaa
