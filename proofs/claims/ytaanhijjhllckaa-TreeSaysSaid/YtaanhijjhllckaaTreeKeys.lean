/- Sets of bytes as keys of a map; the sets of a row of nodes. -/
import Derived.Test.YtaanhijjhllckaaTreeOps
import Derived.Test.YtaanhijjhllckaaBlockAppend
import Derived.DeepKeys4
import Derived.Maps.OwnIn
import Derived.Maps.AppendAt
namespace Go.Proofs.Ytaanhijjhllckaa
set_option maxRecDepth 100000
open Go.RowKit Go.Shelf
theorem set_law : WideMaps.KeyLaw Try.prog 24 := deep_law_laid (by kernel_rfl) (m := 3) (by decide) (by decide +kernel) (by kernel_rfl) (by kernel_rfl)
theorem set_keyed : Maps.Keyed Try.prog 24 := Maps.Keyed.of_law set_law
theorem wf_word (s : BitVec 256) (i : Nat) : (Lit.int .u64 (word s i : Int)).wf = true := by
  have h := word_lt s i
  have e1 : IntKind.u64.min = 0 := by kernel_rfl
  have e2 : IntKind.u64.max = 18446744073709551615 := by kernel_rfl
  simp only [Lit.wf, e1, e2, decide_eq_true_eq, Bool.and_eq_true]
  omega
theorem cells_set : Try.prog.cellsOf 24 = 4 := by kernel_rfl
theorem cells_u64 : Try.prog.cellsOf 22 = 1 := by kernel_rfl
theorem ktype_set : Try.prog.keyType 24 = true := by kernel_rfl
theorem types_pos : ∃ d, Try.prog.types.size = d + 1 := Nat.exists_eq_add_one.mpr (of_decide_eq_true (by kernel_rfl))
theorem lits_word (s : BitVec 256) (i d : Nat) : Try.prog.keyLits (d + 1) 22 [.int .u64 (word s i)] = some [.int .u64 (word s i)] := by
  unfold Program.keyLits
  rw [Try.underlying22]
  simp only []
  rw [if_pos ⟨trivial, wf_word s i⟩]
theorem key_set (s : BitVec 256) : ∃ kl, keyOf Try.prog 24 (SV s) = some kl := by
  obtain ⟨d, hd⟩ := types_pos
  unfold keyOf
  rw [Try.underlying24]
  simp only []
  have hf : Value.formed Try.prog 24 (SV s) = true := by
    simp only [Value.formed, Try.underlying24, cells_set]
    rfl
  rw [ktype_set, hf, hd]
  have hk : Try.prog.keyLits (d + 1 + 1) 24 (SV s).cells.toList = some ([[Lit.int .u64 (word s 0)], [Lit.int .u64 (word s 1)], [Lit.int .u64 (word s 2)], [Lit.int .u64 (word s 3)]].flatten) := by
    unfold Program.keyLits
    rw [Try.underlying24]
    simp only [cells_set, cells_u64]
    have hr : List.range 4 = [0, 1, 2, 3] := rfl
    rw [if_pos (show (SV s).cells.toList.length = 4 from rfl), hr]
    simp [Value.cells, lits_word]
  rw [hk]
  exact ⟨_, rfl⟩
/-- the key that a set is -/
noncomputable def keyS (s : BitVec 256) : Lit := Classical.choose (key_set s)
theorem keyS_of (s : BitVec 256) : keyOf Try.prog 24 (SV s) = some (keyS s) := Classical.choose_spec (key_set s)
theorem SV_inj {s t : BitVec 256} (h : SV s = SV t) : s = t := by
  have h1 := congrArg Array.toList (Value.agg.inj h)
  obtain ⟨a0, r0⟩ := List.cons.inj h1
  obtain ⟨a1, r1⟩ := List.cons.inj r0
  obtain ⟨a2, r2⟩ := List.cons.inj r1
  obtain ⟨a3, _⟩ := List.cons.inj r2
  have i0 := (Value.int.inj a0).2
  have i1 := (Value.int.inj a1).2
  have i2 := (Value.int.inj a2).2
  have i3 := (Value.int.inj a3).2
  clear h h1 a0 a1 a2 a3 r0 r1 r2
  exact word_ext s t (by omega) (by omega) (by omega) (by omega)
theorem keyS_inj {s t : BitVec 256} (h : keyS s = keyS t) : s = t := by
  have h2 := keyS_of t
  rw [← h] at h2
  exact SV_inj (set_keyed.inj (a := SV s) (b := SV t) (l := keyS s) (keyS_of s) h2)
theorem keyS_lit (s : BitVec 256) : WideAt.IsKeyLit (keyS s) := set_keyed.key (keyS_of s)
/-- the sets of a row of nodes -/
def accN : List Nd → List (BitVec 256) → List (BitVec 256)
  | [], acc => acc
  | .mk k s _ _ _ _ :: l, acc => accN l (if k = 1 then addSet acc s else acc)
theorem accN_append (l m : List Nd) (acc : List (BitVec 256)) : accN (l ++ m) acc = accN m (accN l acc) := by
  induction l generalizing acc with
  | nil => rfl
  | cons x l ih => cases x; exact ih _
theorem addSet_length (acc : List (BitVec 256)) (s : BitVec 256) : (addSet acc s).length ≤ acc.length + 1 := by
  unfold addSet; split <;> simp
theorem accN_length (l : List Nd) (acc : List (BitVec 256)) : (accN l acc).length ≤ acc.length + l.length := by
  induction l generalizing acc with
  | nil => exact Nat.le_refl _
  | cons x l ih =>
    cases x with
    | mk k s lo hi n ls =>
      have h := ih (if k = 1 then addSet acc s else acc)
      have h2 := addSet_length acc s
      show (accN l _).length ≤ _
      simp only [List.length_cons]
      split at h
      · rename_i hk; rw [if_pos hk]; omega
      · rename_i hk; rw [if_neg hk]; omega
/-! in a valid tree a set has no nodes: the row tells the sets as the tree does -/
mutual
def Nd.setless : Nd → Bool
  | .mk k _ _ _ _ l => (if k = 1 then decide (l.length = 0) else setlesses l)
def setlesses : List Nd → Bool
  | [] => true
  | x :: l => x.setless && setlesses l
end
mutual
theorem accN_pre : ∀ (x : Nd) (acc : List (BitVec 256)), x.setless = true → accN x.pre acc = x.setsTo acc
  | .mk k s lo hi n l, acc, h => by
    rw [pre_mk]
    unfold Nd.setless at h
    unfold Nd.setsTo
    show accN (pres l) _ = _
    split
    · rename_i hk
      rw [if_pos hk] at h
      have hl : l = [] := List.length_eq_zero_iff.mp (by simpa using h)
      rw [hl, pres_nil]; rfl
    · rename_i hk
      rw [if_neg hk] at h
      exact accN_pres l acc h
theorem accN_pres : ∀ (l : List Nd) (acc : List (BitVec 256)), setlesses l = true → accN (pres l) acc = setsAll l acc
  | [], acc, _ => by rw [pres_nil]; unfold setsAll; rfl
  | x :: l, acc, h => by
    unfold setlesses at h
    rw [Bool.and_eq_true] at h
    rw [pres_cons, accN_append, accN_pre x acc h.1, accN_pres l _ h.2]
    conv => rhs; unfold setsAll
end
mutual
theorem form_setless : ∀ (x : Nd) (next : Nat) {m : Nat}, x.form next = some m → x.setless = true
  | .mk k s lo hi n l, next, m, h => by
    rw [form_mk] at h
    split at h
    · rename_i hf
      unfold Nd.setless
      split
      · rename_i hk
        subst hk
        simp [fieldsOk] at hf
        simp [hf.2.2]
      · exact forms_setless k l _ h
    · cases h
theorem forms_setless : ∀ (k : Int) (l : List Nd) (next : Nat) {m : Nat}, forms k l next = some m → setlesses l = true
  | k, [], next, m, _ => by unfold setlesses; rfl
  | k, x :: l, next, m, h => by
    rw [forms_cons] at h
    split at h
    · cases hx : x.form next with
      | none => rw [hx] at h; cases h
      | some y =>
        rw [hx] at h
        unfold setlesses
        rw [form_setless x next hx, forms_setless k l y h]; rfl
    · cases h
end
theorem good_setless {x : Nd} {gr : Int} (h : goodP x gr = true) : x.setless = true ∧ x.count ≤ 2000 := by
  have hs := good_size h
  unfold goodP at h
  simp only [Bool.and_eq_true] at h
  cases hf : x.form 1 with
  | none => rw [hf] at h; cases h.2
  | some m => exact ⟨form_setless x 1 hf, hs.1⟩
theorem setless_mem {l : List Nd} (h : setlesses l = true) {y : Nd} (hy : y ∈ l) : y.setless = true := by
  induction l with
  | nil => simp at hy
  | cons x l ih =>
    unfold setlesses at h
    rw [Bool.and_eq_true] at h
    rcases List.mem_cons.mp hy with rfl | hy
    · exact h.1
    · exact ih h.2 hy
end Go.Proofs.Ytaanhijjhllckaa
