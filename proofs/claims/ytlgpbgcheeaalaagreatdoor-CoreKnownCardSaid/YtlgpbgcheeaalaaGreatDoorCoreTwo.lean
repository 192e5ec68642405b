/- The core of a node, and its maker: part, join, copy, optional, repetition. -/
import Derived.Test.YtlgpbgcheeaalaaGreatDoorCoreOne
import Derived.Test.YtlgpbgcheeaalaaGreatDoorTreeMath
import Derived.Test.YtlgpbgcheeaalaaGreatDoorTreeGood
import Derived.Deep.DeepCutAuto
import Derived.StillTailTactics
import Derived.Test.YtlgpbgcheeaalaaGreatDoorFree
/-! What the core of a node is, and the maker, part by part: it tells the core where it is not too large. -/
namespace Go.Proofs.YtlgpbgcheeaalaaGreatDoor
namespace K
set_option maxRecDepth 100000
open Go.RowKit
abbrev zeroC : Cr := .mk 0 0 0 []
abbrev leafC (k : Int) : Cr := .mk k 0 0 []
def joinC (k : Int) : List Cr → Cr
  | [] => zeroC
  | [x] => x
  | x :: y :: l => .mk k 0 0 [x, joinC k (y :: l)]
def againC (first : Bool) (c : Cr) : Cr := if first then c else .mk 7 0 0 [c]
def optC (c : Cr) : Nat → Bool → Cr
  | 0, first => .mk 4 0 0 [againC first c, leafC 1]
  | t + 1, first => .mk 4 0 0 [.mk 3 0 0 [againC first c, optC c t false], leafC 1]
def copiesC (c : Cr) : Nat → List Cr
  | 0 => []
  | i + 1 => copiesC c i ++ [againC (i == 0) c]
def restC (c : Cr) (lo hi : Int) : List Cr := if hi = -1 then [.mk 5 0 0 [againC (lo == 0) c]] else if lo < hi then [optC c ((hi - lo).toNat - 1) (lo == 0)] else []
def repC (c : Cr) (lo hi : Int) : Cr := if hi = 0 then leafC 1 else joinC 3 (copiesC c lo.toNat ++ restC c lo hi)
mutual
def Nd.core : Nd → Cr
  | .mk k s lo hi n l => if k = 1 then .mk 2 s 0 [] else if k = 2 then joinC 3 (cores l) else if k = 3 then joinC 4 (cores l) else if k = 4 then repC (headC l) lo hi else if k = 5 then .mk 6 0 n [headC l] else headC l
def cores : List Nd → List Cr
  | [] => []
  | x :: l => Nd.core x :: cores l
def headC : List Nd → Cr
  | [] => zeroC
  | x :: _ => Nd.core x
end
/-! the maker -/
abbrev Mk := Nat → Cr × Nat
def againM (f : Mk) (first : Bool) (sz : Nat) : Cr × Nat := if first then f sz else (.mk 7 0 0 [(f sz).1], (f sz).2 + 1)
def copiesM (f : Mk) : Nat → Nat → List Cr × Nat
  | 0, sz => ([], sz)
  | i + 1, sz => ((copiesM f i sz).1 ++ [(againM f (i == 0) (copiesM f i sz).2).1], (againM f (i == 0) (copiesM f i sz).2).2)
def optM (f : Mk) : Nat → Bool → Nat → Cr × Nat
  | 0, first, sz => (.mk 4 0 0 [(againM f first sz).1, leafC 1], (againM f first sz).2 + 2)
  | t + 1, first, sz => (.mk 4 0 0 [.mk 3 0 0 [(againM f first sz).1, (optM f t false (againM f first sz).2).1], leafC 1], (optM f t false (againM f first sz).2).2 + 3)
def joinM (k : Int) (r : List Cr × Nat) : Cr × Nat := (joinC k r.1, r.2 + (r.1.length - 1))
def restM (f : Mk) (lo hi : Int) (sz : Nat) : List Cr × Nat :=
  if hi = -1 then ([.mk 5 0 0 [(againM f (lo == 0) sz).1]], (againM f (lo == 0) sz).2 + 1) else if lo < hi then ([(optM f ((hi - lo).toNat - 1) (lo == 0) sz).1], (optM f ((hi - lo).toNat - 1) (lo == 0) sz).2) else ([], sz)
def bothM (f : Mk) (lo hi : Int) (sz : Nat) : List Cr × Nat := ((copiesM f lo.toNat sz).1 ++ (restM f lo hi (copiesM f lo.toNat sz).2).1, (restM f lo hi (copiesM f lo.toNat sz).2).2)
def repM (f : Mk) (lo hi : Int) (sz : Nat) : Cr × Nat := if hi = 0 then (leafC 1, sz + 1) else joinM 3 (bothM f lo hi sz)
mutual
def Nd.mkC : Nd → Nat → Cr × Nat
  | .mk k s lo hi n l, sz => if 2000 < sz then (zeroC, sz) else if k = 1 then (.mk 2 s 0 [], sz + 1) else if k = 2 then joinM 3 (mkAll l sz) else if k = 3 then joinM 4 (mkAll l sz) else if k = 4 then repM (headM l) lo hi sz
    else if k = 5 then (.mk 6 0 n [(headM l sz).1], (headM l sz).2 + 1) else headM l sz
def mkAll : List Nd → Nat → List Cr × Nat
  | [], sz => ([], sz)
  | x :: l, sz => ((Nd.mkC x sz).1 :: (mkAll l (Nd.mkC x sz).2).1, (mkAll l (Nd.mkC x sz).2).2)
def headM : List Nd → Nat → Cr × Nat
  | [], sz => (zeroC, sz)
  | x :: _, sz => Nd.mkC x sz
end
theorem mkC_mk (k : Int) (s : BitVec 256) (lo hi n : Int) (l : List Nd) (sz : Nat) : Nd.mkC (.mk k s lo hi n l) sz = if 2000 < sz then (zeroC, sz) else if k = 1 then (.mk 2 s 0 [], sz + 1) else if k = 2 then joinM 3 (mkAll l sz) else if k = 3 then joinM 4 (mkAll l sz) else if k = 4 then repM (headM l) lo hi sz
    else if k = 5 then (.mk 6 0 n [(headM l sz).1], (headM l sz).2 + 1) else headM l sz := by rw [Nd.mkC]
theorem core_mk (k : Int) (s : BitVec 256) (lo hi n : Int) (l : List Nd) : Nd.core (.mk k s lo hi n l) = if k = 1 then .mk 2 s 0 [] else if k = 2 then joinC 3 (cores l) else if k = 3 then joinC 4 (cores l) else if k = 4 then repC (headC l) lo hi else if k = 5 then .mk 6 0 n [headC l] else headC l := by rw [Nd.core]
theorem mkAll_cons (x : Nd) (l : List Nd) (sz : Nat) : mkAll (x :: l) sz = ((Nd.mkC x sz).1 :: (mkAll l (Nd.mkC x sz).2).1, (mkAll l (Nd.mkC x sz).2).2) := by rw [mkAll]
theorem mkAll_nil (sz : Nat) : mkAll [] sz = ([], sz) := by rw [mkAll]
theorem cores_cons (x : Nd) (l : List Nd) : cores (x :: l) = Nd.core x :: cores l := by rw [cores]
theorem cores_nil : cores [] = [] := by rw [cores]
theorem mkAll_length : ∀ (l : List Nd) (sz : Nat), (mkAll l sz).1.length = l.length
  | [], sz => by rw [mkAll_nil]; rfl
  | x :: l, sz => by rw [mkAll_cons, List.length_cons, mkAll_length l, List.length_cons]
theorem cores_length : ∀ (l : List Nd), (cores l).length = l.length
  | [] => by rw [cores_nil]; rfl
  | x :: l => by rw [cores_cons, List.length_cons, cores_length l, List.length_cons]
theorem countsC_append (l m : List Cr) : counts (l ++ m) = counts l + counts m := by
  induction l with
  | nil => rw [counts_nil, List.nil_append]; omega
  | cons x l ih => rw [List.cons_append, counts_cons, counts_cons, ih]; omega
theorem counts_one (x : Cr) : counts [x] = x.count := by rw [counts_cons, counts_nil]; omega
theorem counts_two (x y : Cr) : counts [x, y] = x.count + y.count := by rw [counts_cons, counts_one]
theorem leaf_count (k : Int) : (leafC k).count = 1 := by rw [count_mk, counts_nil]
theorem again_count (first : Bool) (c : Cr) : (againC first c).count = c.count + (if first then 0 else 1) := by
  cases first
  · show (Cr.mk 7 0 0 [c]).count = _; rw [count_mk, counts_one]; simp; omega
  · rfl
theorem join_count (k : Int) : ∀ l : List Cr, l ≠ [] → (joinC k l).count = counts l + (l.length - 1)
  | [], h => absurd rfl h
  | [x], _ => by rw [counts_one]; rfl
  | x :: y :: l, _ => by
    show (Cr.mk k 0 0 [x, joinC k (y :: l)]).count = _
    rw [count_mk, counts_two, join_count k (y :: l) (by simp), counts_cons x]
    simp only [List.length_cons]; omega
/-- the maker tells the core, if it fits; else it is full -/
def Fits (f : Mk) (c : Cr) : Prop := ∀ sz, (sz + c.count ≤ 2000 → f sz = (c, sz + c.count)) ∧ (2000 < sz + c.count → 2000 < (f sz).2)
def FitsL (f : Nat → List Cr × Nat) (l : List Cr) : Prop := ∀ sz, (sz + counts l ≤ 2000 → f sz = (l, sz + counts l)) ∧ (2000 < sz + counts l → 2000 < (f sz).2)
theorem again_fits {f : Mk} {c : Cr} (h : Fits f c) (first : Bool) : Fits (againM f first) (againC first c) := by
  intro sz
  obtain ⟨h1, h2⟩ := h sz
  rw [again_count]
  cases first
  · simp only [againM, againC, Bool.false_eq_true, if_false]
    constructor
    · intro hs
      rw [h1 (by omega), Nat.add_assoc]
    · intro hs
      by_cases hc : sz + c.count ≤ 2000
      · rw [h1 hc]; show 2000 < sz + c.count + 1; omega
      · have := h2 (by omega); omega
  · exact ⟨h1, h2⟩
theorem copies_fits {f : Mk} {c : Cr} (h : Fits f c) : ∀ i, FitsL (copiesM f i) (copiesC c i)
  | 0 => fun sz => ⟨fun _ => by show ([], sz) = ([], sz + counts []); rw [counts_nil]; rfl, fun hs => by
      have e : counts (copiesC c 0) = 0 := counts_nil
      rw [e] at hs; exact hs⟩
  | i + 1 => fun sz => by
    obtain ⟨h1, h2⟩ := copies_fits h i sz
    have e : counts (copiesC c (i + 1)) = counts (copiesC c i) + (againC (i == 0) c).count := by
      show counts (copiesC c i ++ [_]) = _
      rw [countsC_append, counts_one]
    rw [e]
    constructor
    · intro hs
      have h3 := h1 (by omega)
      have h4 := (again_fits h (i == 0) (sz + counts (copiesC c i))).1 (by omega)
      show ((copiesM f i sz).1 ++ [(againM f (i == 0) (copiesM f i sz).2).1], (againM f (i == 0) (copiesM f i sz).2).2) = (copiesC c i ++ [_], _)
      rw [h3]
      simp only
      rw [h4, Nat.add_assoc]
    · intro hs
      show 2000 < (againM f (i == 0) (copiesM f i sz).2).2
      by_cases hc : sz + counts (copiesC c i) ≤ 2000
      · rw [h1 hc]
        exact (again_fits h (i == 0) _).2 (by simp only; omega)
      · have := h2 (by omega)
        exact (again_fits h (i == 0) _).2 (by omega)
theorem opt_fits {f : Mk} {c : Cr} (h : Fits f c) : ∀ t first, Fits (optM f t first) (optC c t first)
  | 0, first => fun sz => by
    obtain ⟨h1, h2⟩ := again_fits h first sz
    have e : (optC c 0 first).count = (againC first c).count + 2 := by
      show (Cr.mk 4 0 0 [_, _]).count = _
      rw [count_mk, counts_two, leaf_count]; omega
    rw [e]
    constructor
    · intro hs
      show ((Cr.mk 4 0 0 [(againM f first sz).1, leafC 1] : Cr), (againM f first sz).2 + 2) = (Cr.mk 4 0 0 [_, _], _)
      rw [h1 (by omega), Nat.add_assoc]
    · intro hs
      show 2000 < (againM f first sz).2 + 2
      by_cases hc : sz + (againC first c).count ≤ 2000
      · rw [h1 hc]; simp only; omega
      · have := h2 (by omega); omega
  | t + 1, first => fun sz => by
    obtain ⟨h1, h2⟩ := again_fits h first sz
    have e : (optC c (t + 1) first).count = (againC first c).count + (optC c t false).count + 3 := by
      show (Cr.mk 4 0 0 [Cr.mk 3 0 0 [_, _], _]).count = _
      rw [count_mk, counts_two, leaf_count, count_mk, counts_two]; omega
    rw [e]
    constructor
    · intro hs
      show ((Cr.mk 4 0 0 [.mk 3 0 0 [(againM f first sz).1, (optM f t false (againM f first sz).2).1], leafC 1] : Cr), (optM f t false (againM f first sz).2).2 + 3) = (Cr.mk 4 0 0 [Cr.mk 3 0 0 [_, _], _], _)
      rw [h1 (by omega)]
      simp only
      rw [(opt_fits h t false _).1 (by omega)]
      refine Prod.ext rfl ?_
      simp only; omega
    · intro hs
      show 2000 < (optM f t false (againM f first sz).2).2 + 3
      by_cases hc : sz + (againC first c).count ≤ 2000
      · rw [h1 hc]
        simp only
        by_cases hd : sz + (againC first c).count + (optC c t false).count ≤ 2000
        · rw [(opt_fits h t false _).1 hd]; simp only; omega
        · have := (opt_fits h t false (sz + (againC first c).count)).2 (by omega); omega
      · have h3 := h2 (by omega)
        have := (opt_fits h t false (againM f first sz).2).2 (by omega); omega
theorem rest_fits {f : Mk} {c : Cr} (h : Fits f c) (lo hi : Int) : FitsL (restM f lo hi) (restC c lo hi) := by
  intro sz
  unfold restM restC
  split
  · obtain ⟨h1, h2⟩ := again_fits h (lo == 0) sz
    rw [counts_one, count_mk, counts_one]
    constructor
    · intro hs
      rw [h1 (by omega)]
      refine Prod.ext rfl ?_
      simp only; omega
    · intro hs
      simp only
      by_cases hc : sz + (againC (lo == 0) c).count ≤ 2000
      · rw [h1 hc]; simp only; omega
      · have := h2 (by omega); omega
  split
  · obtain ⟨h1, h2⟩ := opt_fits h ((hi - lo).toNat - 1) (lo == 0) sz
    rw [counts_one]
    exact ⟨fun hs => by rw [h1 hs], fun hs => h2 hs⟩
  · rw [counts_nil]; exact ⟨fun _ => rfl, fun hs => hs⟩
theorem both_fits {f : Mk} {c : Cr} (h : Fits f c) (lo hi : Int) : FitsL (bothM f lo hi) (copiesC c lo.toNat ++ restC c lo hi) := by
  intro sz
  obtain ⟨h1, h2⟩ := copies_fits h lo.toNat sz
  rw [countsC_append]
  unfold bothM
  constructor
  · intro hs
    rw [h1 (by omega)]
    simp only
    rw [(rest_fits h lo hi _).1 (by omega)]
    refine Prod.ext rfl ?_
    simp only; omega
  · intro hs
    simp only
    by_cases hc : sz + counts (copiesC c lo.toNat) ≤ 2000
    · rw [h1 hc]; exact (rest_fits h lo hi _).2 (by simp only; omega)
    · exact (rest_fits h lo hi _).2 (by have := h2 (by omega); omega)
theorem join_fits {f : Nat → List Cr × Nat} {l : List Cr} (h : FitsL f l) (hl : l ≠ []) (k : Int) : Fits (fun sz => joinM k (f sz)) (joinC k l) := by
  intro sz
  obtain ⟨h1, h2⟩ := h sz
  rw [join_count k l hl]
  unfold joinM
  dsimp only
  constructor
  · intro hs
    rw [h1 (by omega)]
    refine Prod.ext rfl ?_
    simp only; omega
  · intro hs
    by_cases hc : sz + counts l ≤ 2000
    · rw [h1 hc]; simp only; omega
    · have := h2 (by omega); omega
theorem copies_length (c : Cr) : ∀ i, (copiesC c i).length = i
  | 0 => rfl
  | i + 1 => by show (copiesC c i ++ [_]).length = _; rw [List.length_append, copies_length c i]; rfl
theorem both_ne {lo hi : Int} (c : Cr) (h0 : 0 ≤ lo) (h : hi = -1 ∨ lo ≤ hi) (hn : hi ≠ 0) : copiesC c lo.toNat ++ restC c lo hi ≠ [] := by
  intro he
  have hl := congrArg List.length he
  rw [List.length_append, copies_length] at hl
  unfold restC at hl
  split at hl
  · simp at hl
  split at hl
  · simp at hl
  · simp at hl; omega
theorem rep_fits {f : Mk} {c : Cr} (h : Fits f c) {lo hi : Int} (h0 : 0 ≤ lo) (h1 : hi = -1 ∨ lo ≤ hi) : Fits (repM f lo hi) (repC c lo hi) := by
  unfold repM repC
  by_cases hn : hi = 0
  · intro sz
    simp only [if_pos hn]
    rw [leaf_count]
    exact ⟨fun _ => rfl, fun hs => hs⟩
  · intro sz
    simp only [if_neg hn]
    exact join_fits (both_fits h lo hi) (both_ne c h0 h1 hn) 3 sz
/-- the parts of a valid node's fields -/
theorem form_cases {k lo hi n : Int} {s : BitVec 256} {l : List Nd} {next m : Nat} (h : (Nd.mk k s lo hi n l).form next = some m) :
    (k = 1 ∧ l = []) ∨ ((k = 2 ∨ k = 3) ∧ 2 ≤ l.length ∧ Go.Proofs.YtlgpbgcheeaalaaGreatDoor.forms k l next = some m) ∨ (∃ y, l = [y] ∧ (k = 4 ∧ 0 ≤ lo ∧ lo ≤ 255 ∧ hi ≤ 255 ∧ (hi = -1 ∨ lo ≤ hi) ∨ k = 5 ∨ k = 6) ∧ ∃ n1 m1, y.form n1 = some m1) := by
  rw [Go.Proofs.YtlgpbgcheeaalaaGreatDoor.form_mk] at h
  split at h
  · rename_i hf
    unfold fieldsOk at hf
    have hone : ∀ nx, l.length = 1 → Go.Proofs.YtlgpbgcheeaalaaGreatDoor.forms k l nx = some m → ∃ y, l = [y] ∧ ∃ n1 m1, y.form n1 = some m1 := by
      intro nx h1 h2
      obtain ⟨y, rfl⟩ := List.length_eq_one_iff.1 h1
      refine ⟨y, rfl, nx, ?_⟩
      rw [Go.Proofs.YtlgpbgcheeaalaaGreatDoor.forms_cons] at h2
      split at h2
      · cases hy : y.form nx with
        | none => rw [hy] at h2; cases h2
        | some m1 => exact ⟨m1, rfl⟩
      · cases h2
    by_cases h1 : k = 1
    · left
      subst h1
      simp at hf
      exact ⟨rfl, hf.2.2⟩
    by_cases h2 : k = 2 ∨ k = 3
    · right; left
      rw [if_neg h1, if_pos h2] at hf
      simp only [Bool.and_eq_true, decide_eq_true_eq] at hf
      refine ⟨h2, hf.2, ?_⟩
      rw [if_neg (by omega)] at h
      exact h
    right; right
    rw [if_neg h1, if_neg h2] at hf
    by_cases h4 : k = 4
    · subst h4
      simp at hf
      obtain ⟨y, hy, hn⟩ := hone _ hf.2.1.1.1 h
      refine ⟨y, hy, .inl ⟨rfl, ?_⟩, hn⟩
      have := hf.2
      omega
    by_cases h5 : k = 5
    · subst h5
      simp at hf
      obtain ⟨y, hy, hn⟩ := hone _ hf.2.1 h
      exact ⟨y, hy, .inr (.inl rfl), hn⟩
    by_cases h6 : k = 6
    · subst h6
      simp at hf
      obtain ⟨y, hy, hn⟩ := hone _ hf.2 h
      exact ⟨y, hy, .inr (.inr rfl), hn⟩
    · rw [if_neg h4, if_neg h5, if_neg h6, Bool.and_false] at hf; cases hf
  · cases h
theorem forms_each {k : Int} : ∀ {l : List Nd} {next m : Nat}, Go.Proofs.YtlgpbgcheeaalaaGreatDoor.forms k l next = some m → ∀ y ∈ l, ∃ n1 m1, y.form n1 = some m1
  | [], _, _, _, y, hy => by simp at hy
  | x :: l, next, m, h, y, hy => by
    rw [Go.Proofs.YtlgpbgcheeaalaaGreatDoor.forms_cons] at h
    split at h
    · cases hx : x.form next with
      | none => rw [hx] at h; cases h
      | some m1 =>
        rw [hx] at h
        rcases List.mem_cons.1 hy with rfl | hy
        · exact ⟨_, _, hx⟩
        · exact forms_each (show Go.Proofs.YtlgpbgcheeaalaaGreatDoor.forms k l m1 = some m from h) y hy
    · cases h
theorem all_fits : ∀ (l : List Nd), (∀ y ∈ l, Fits (Nd.mkC y) (Nd.core y)) → FitsL (mkAll l) (cores l)
  | [], _ => fun sz => by rw [mkAll_nil, cores_nil, counts_nil]; exact ⟨fun _ => rfl, fun h => h⟩
  | x :: l, h => fun sz => by
    obtain ⟨h1, h2⟩ := h x (by simp) sz
    have ih := all_fits l (fun y hy => h y (by simp [hy]))
    rw [mkAll_cons, cores_cons, counts_cons]
    constructor
    · intro hs
      rw [h1 (by omega)]
      simp only
      rw [(ih _).1 (by omega)]
      refine Prod.ext rfl ?_
      simp only; omega
    · intro hs
      simp only
      by_cases hc : sz + (Nd.core x).count ≤ 2000
      · rw [h1 hc]; exact (ih _).2 (by simp only; omega)
      · exact (ih _).2 (by have := h2 (by omega); omega)
theorem mk_fits : ∀ (c : Nat) (x : Nd) (next m : Nat), x.count ≤ c → x.form next = some m → Fits (Nd.mkC x) (Nd.core x)
  | 0, x, _, _, hc, _ => by have := x.count_pos; omega
  | c + 1, .mk k s lo hi n l, next, m, hc, hf => by
    have hkids : ∀ y ∈ l, ∀ n1 m1, y.form n1 = some m1 → Fits (Nd.mkC y) (Nd.core y) := fun y hy n1 m1 h => mk_fits c y n1 m1 (by have := Go.Proofs.YtlgpbgcheeaalaaGreatDoor.count_mem (x := Nd.mk k s lo hi n l) (y := y) hy; omega) h
    -- a maker that asks first whether it is full
    have hfull : ∀ (g : Mk) (d : Cr), Fits g d → (∀ sz, Nd.mkC (.mk k s lo hi n l) sz = if 2000 < sz then (zeroC, sz) else g sz) → Fits (Nd.mkC (.mk k s lo hi n l)) d := fun g d hg he sz => by
      obtain ⟨h1, h2⟩ := hg sz
      rw [he]
      by_cases h0 : 2000 < sz
      · rw [if_pos h0]
        exact ⟨fun h => by omega, fun _ => h0⟩
      · rw [if_neg h0]; exact ⟨h1, h2⟩
    rcases form_cases hf with ⟨rfl, rfl⟩ | ⟨hk, hl, hfs⟩ | ⟨y, rfl, hk, n1, m1, hy⟩
    · rw [core_mk, if_pos rfl]
      refine hfull (fun sz => (.mk 2 s 0 [], sz + 1)) _ (fun sz => ?_) (fun sz => by rw [mkC_mk, if_pos rfl])
      rw [count_mk, counts_nil]
      exact ⟨fun _ => rfl, fun h => h⟩
    · have hall := all_fits l (fun y hy => by obtain ⟨n1, m1, h⟩ := forms_each hfs y hy; exact hkids y hy n1 m1 h)
      have hne : cores l ≠ [] := by
        intro h
        have := congrArg List.length h
        rw [cores_length, List.length_nil] at this; omega
      rcases hk with rfl | rfl
      · rw [core_mk, if_neg (by decide), if_pos rfl]
        exact hfull _ _ (join_fits hall hne 3) (fun sz => by rw [mkC_mk, if_neg (show ¬ (2 : Int) = 1 by decide), if_pos rfl])
      · rw [core_mk, if_neg (by decide), if_neg (by decide), if_pos rfl]
        exact hfull _ _ (join_fits hall hne 4) (fun sz => by rw [mkC_mk, if_neg (show ¬ (3 : Int) = 1 by decide), if_neg (show ¬ (3 : Int) = 2 by decide), if_pos rfl])
    · have hy1 := hkids y (by simp) n1 m1 hy
      have e1 : headC [y] = Nd.core y := by rw [headC]
      have e2 : ∀ sz, headM [y] sz = Nd.mkC y sz := fun sz => by rw [headM]
      have hy2 : Fits (headM [y]) (headC [y]) := fun sz => by rw [e1, e2]; exact hy1 sz
      rcases hk with ⟨rfl, h0, _, _, h1⟩ | rfl | rfl
      · rw [core_mk, if_neg (by decide), if_neg (by decide), if_neg (by decide), if_pos rfl]
        exact hfull _ _ (rep_fits hy2 h0 h1) (fun sz => by rw [mkC_mk, if_neg (show ¬ (4 : Int) = 1 by decide), if_neg (show ¬ (4 : Int) = 2 by decide), if_neg (show ¬ (4 : Int) = 3 by decide), if_pos rfl])
      · rw [core_mk, if_neg (by decide), if_neg (by decide), if_neg (by decide), if_neg (by decide), if_pos rfl]
        refine hfull (fun sz => (.mk 6 0 n [(headM [y] sz).1], (headM [y] sz).2 + 1)) _ (fun sz => ?_) (fun sz => by rw [mkC_mk, if_neg (show ¬ (5 : Int) = 1 by decide), if_neg (show ¬ (5 : Int) = 2 by decide), if_neg (show ¬ (5 : Int) = 3 by decide), if_neg (show ¬ (5 : Int) = 4 by decide), if_pos rfl])
        obtain ⟨h1, h2⟩ := hy2 sz
        rw [count_mk, counts_one]
        dsimp only
        constructor
        · intro hs
          rw [h1 (by omega)]
          refine Prod.ext rfl ?_
          simp only; omega
        · intro hs
          by_cases hc : sz + (headC [y]).count ≤ 2000
          · rw [h1 hc]; simp only; omega
          · have := h2 (by omega); omega
      · rw [core_mk, if_neg (by decide), if_neg (by decide), if_neg (by decide), if_neg (by decide), if_neg (by decide)]
        exact hfull _ _ hy2 (fun sz => by rw [mkC_mk, if_neg (show ¬ (6 : Int) = 1 by decide), if_neg (show ¬ (6 : Int) = 2 by decide), if_neg (show ¬ (6 : Int) = 3 by decide), if_neg (show ¬ (6 : Int) = 4 by decide), if_neg (show ¬ (6 : Int) = 5 by decide)])
/-! the maker's count stays small -/
def Small (D : Nat) (f : Mk) : Prop := ∀ sz, (f sz).2 ≤ max sz (2000 + D)
theorem again_small {D : Nat} {f : Mk} (h : Small D f) (first : Bool) (sz : Nat) : (againM f first sz).2 ≤ max sz (2000 + D) + 1 := by
  have := h sz
  cases first <;> simp only [againM, Bool.false_eq_true, if_false, if_true] <;> omega
theorem copies_small {D : Nat} {f : Mk} (h : Small D f) : ∀ (i sz : Nat), (copiesM f i sz).2 ≤ max sz (2000 + D) + i
  | 0, sz => by show sz ≤ _; omega
  | i + 1, sz => by
    have h1 := copies_small h i sz
    have h2 := again_small h (i == 0) (copiesM f i sz).2
    show (againM f (i == 0) (copiesM f i sz).2).2 ≤ _
    omega
theorem opt_small {D : Nat} {f : Mk} (h : Small D f) : ∀ (t : Nat) (first : Bool) (sz : Nat), (optM f t first sz).2 ≤ max sz (2000 + D) + 4 * (t + 1)
  | 0, first, sz => by
    have h1 := again_small h first sz
    show (againM f first sz).2 + 2 ≤ _
    omega
  | t + 1, first, sz => by
    have h1 := again_small h first sz
    have h2 := opt_small h t false (againM f first sz).2
    show (optM f t false (againM f first sz).2).2 + 3 ≤ _
    omega
theorem rest_small {D : Nat} {f : Mk} (h : Small D f) {lo hi : Int} (h0 : 0 ≤ lo) (h1 : hi ≤ 255) (sz : Nat) : (restM f lo hi sz).2 ≤ max sz (2000 + D) + 1024 := by
  have h2 := again_small h (lo == 0) sz
  have h3 := opt_small h ((hi - lo).toNat - 1) (lo == 0) sz
  unfold restM
  split
  · simp only; omega
  split
  · simp only; omega
  · simp only; omega
theorem copiesM_length (f : Mk) : ∀ (i sz : Nat), (copiesM f i sz).1.length = i
  | 0, _ => rfl
  | i + 1, sz => by show ((copiesM f i sz).1 ++ [_]).length = _; rw [List.length_append, copiesM_length f i sz]; rfl
theorem restM_length (f : Mk) (lo hi : Int) (sz : Nat) : (restM f lo hi sz).1.length ≤ 1 := by
  unfold restM
  split
  · simp
  split
  · simp
  · simp
theorem both_small {D : Nat} {f : Mk} (h : Small D f) {lo hi : Int} (h0 : 0 ≤ lo) (h1 : hi ≤ 255) (h2 : lo ≤ 255) (sz : Nat) : (bothM f lo hi sz).2 ≤ max sz (2000 + D) + 1279 ∧ (bothM f lo hi sz).1.length ≤ 256 := by
  have h3 := copies_small h lo.toNat sz
  have h4 := rest_small h h0 h1 (copiesM f lo.toNat sz).2
  have h5 := copiesM_length f lo.toNat sz
  have h6 := restM_length f lo hi (copiesM f lo.toNat sz).2
  unfold bothM
  constructor
  · simp only; omega
  · simp only [List.length_append]; omega
theorem rep_small {D : Nat} {f : Mk} (h : Small D f) {lo hi : Int} (h0 : 0 ≤ lo) (h1 : hi ≤ 255) (h2 : lo ≤ 255) (sz : Nat) : (repM f lo hi sz).2 ≤ max sz (2000 + D) + 1600 := by
  have h3 := both_small h h0 h1 h2 sz
  unfold repM joinM
  split
  · simp only; omega
  · simp only; omega
theorem all_small {D : Nat} : ∀ (l : List Nd), (∀ y ∈ l, Small D (Nd.mkC y)) → ∀ sz, (mkAll l sz).2 ≤ max sz (2000 + D)
  | [], _, sz => by rw [mkAll_nil]; simp only; omega
  | x :: l, h, sz => by
    have h1 := h x (by simp) sz
    have h2 := all_small l (fun y hy => h y (by simp [hy])) (Nd.mkC x sz).2
    rw [mkAll_cons]
    simp only; omega
theorem length_counts : ∀ l : List Nd, l.length ≤ Go.Proofs.YtlgpbgcheeaalaaGreatDoor.counts l
  | [] => by simp
  | x :: l => by
    have := length_counts l
    have := x.count_pos
    unfold Go.Proofs.YtlgpbgcheeaalaaGreatDoor.counts
    rw [List.length_cons]; omega
theorem mk_small : ∀ (c : Nat) (x : Nd) (next m : Nat), x.count ≤ c → c ≤ 2000 → x.form next = some m → Small (3000 * c) (Nd.mkC x)
  | 0, x, _, _, hc, _, _ => by have := x.count_pos; omega
  | c + 1, .mk k s lo hi n l, next, m, hc, h2k, hf => by
    have hkids : ∀ y ∈ l, ∀ n1 m1, y.form n1 = some m1 → Small (3000 * c) (Nd.mkC y) := fun y hy n1 m1 h => mk_small c y n1 m1 (by have := Go.Proofs.YtlgpbgcheeaalaaGreatDoor.count_mem (x := Nd.mk k s lo hi n l) (y := y) hy; omega) (by omega) h
    have hll : l.length ≤ 2000 := by
      have := length_counts l
      rw [Go.Proofs.YtlgpbgcheeaalaaGreatDoor.count_mk] at hc; omega
    intro sz
    by_cases h0 : 2000 < sz
    · rw [mkC_mk, if_pos h0]; simp only; omega
    rcases form_cases hf with ⟨rfl, rfl⟩ | ⟨hk, hl, hfs⟩ | ⟨y, rfl, hk, n1, m1, hy⟩
    · rw [mkC_mk, if_neg h0, if_pos rfl]; simp only; omega
    · have hall := all_small l (fun y hy => by obtain ⟨n1, m1, h⟩ := forms_each hfs y hy; exact hkids y hy n1 m1 h) sz
      have hlen := mkAll_length l sz
      rcases hk with rfl | rfl
      · rw [mkC_mk, if_neg h0, if_neg (show ¬ (2 : Int) = 1 by decide), if_pos rfl]
        unfold joinM
        simp only; omega
      · rw [mkC_mk, if_neg h0, if_neg (show ¬ (3 : Int) = 1 by decide), if_neg (show ¬ (3 : Int) = 2 by decide), if_pos rfl]
        unfold joinM
        simp only; omega
    · have hy1 := hkids y (by simp) n1 m1 hy
      have e2 : ∀ sz, headM [y] sz = Nd.mkC y sz := fun sz => by rw [headM]
      have hy2 : Small (3000 * c) (headM [y]) := fun sz => by rw [e2]; exact hy1 sz
      have hs := hy2 sz
      rcases hk with ⟨rfl, g0, g1, g2, g3⟩ | rfl | rfl
      · rw [mkC_mk, if_neg h0, if_neg (show ¬ (4 : Int) = 1 by decide), if_neg (show ¬ (4 : Int) = 2 by decide), if_neg (show ¬ (4 : Int) = 3 by decide), if_pos rfl]
        have := rep_small hy2 g0 g2 g1 sz
        omega
      · rw [mkC_mk, if_neg h0, if_neg (show ¬ (5 : Int) = 1 by decide), if_neg (show ¬ (5 : Int) = 2 by decide), if_neg (show ¬ (5 : Int) = 3 by decide), if_neg (show ¬ (5 : Int) = 4 by decide), if_pos rfl]
        simp only; omega
      · rw [mkC_mk, if_neg h0, if_neg (show ¬ (6 : Int) = 1 by decide), if_neg (show ¬ (6 : Int) = 2 by decide), if_neg (show ¬ (6 : Int) = 3 by decide), if_neg (show ¬ (6 : Int) = 4 by decide), if_neg (show ¬ (6 : Int) = 5 by decide)]
        omega
end K
end Go.Proofs.YtlgpbgcheeaalaaGreatDoor
/-! The maker of a core: full, part, join, copy, optional, walked. -/
namespace Go.Proofs.YtlgpbgcheeaalaaGreatDoor
namespace K
set_option maxRecDepth 100000
open Go.RowKit
/-! a core that hangs on blocks with p alone -/
def veil (p : Nat → Bool) (w : World) : World := { w with heap := w.heap.mapIdx fun i o => if p i then o else .deferred none }
theorem veil_size (p : Nat → Bool) (w : World) : (veil p w).heap.size = w.heap.size := by simp [veil]
theorem veil_block {p : Nat → Bool} {w : World} {k : Nat} (h : p k = true) : (veil p w).heap[k]? = w.heap[k]? := by
  simp only [veil, Array.getElem?_mapIdx]
  cases hk : w.heap[k]? with
  | none => rfl
  | some o => simp [h]
theorem veil_cell {p : Nat → Bool} {w : World} {a : Addr} {v : Value} (h : (veil p w).cell? a = some v) : p a.block = true ∧ w.cell? a = some v := by
  cases hp : p a.block with
  | true => exact ⟨rfl, by rw [← h]; exact (World.cell?_of_block (veil_block hp)).symm⟩
  | false =>
    exfalso
    unfold World.cell? at h
    simp only [veil, Array.getElem?_mapIdx] at h
    cases hk : w.heap[a.block]? with
    | none => rw [hk] at h; cases h
    | some o => rw [hk] at h; simp [hp] at h
theorem veil_mono {p q : Nat → Bool} {w w' : World} (hk : ∀ k, p k = true → k < w.heap.size → q k = true ∧ w'.heap[k]? = w.heap[k]?) (a : Addr) (v : Value) (ha : (veil p w).cell? a = some v) : (veil q w').cell? a = some v := by
  obtain ⟨h1, h2⟩ := veil_cell ha
  have h3 := hk _ h1 (World.block_lt_of_cell? w _ h2)
  rw [World.cell?_of_block (veil_block h3.1), World.cell?_of_block h3.2]
  exact h2
def CrIn (p : Nat → Bool) (w : World) (x : Cr) (cs : List Value) : Prop := Cr.at (veil p w) x cs
theorem CrIn.mono {p q : Nat → Bool} {w w' : World} {x : Cr} {cs : List Value} (h : CrIn p w x cs) (hs : w.heap.size ≤ w'.heap.size) (hk : ∀ k, p k = true → k < w.heap.size → q k = true ∧ w'.heap[k]? = w.heap[k]?) : CrIn q w' x cs :=
  Cr.at_same (veil_mono hk) (by rw [veil_size, veil_size]; exact hs) x cs h
theorem CrIn.at {p : Nat → Bool} {w : World} {x : Cr} {cs : List Value} (h : CrIn p w x cs) : Cr.at w x cs :=
  Cr.at_same (fun _ _ ha => (veil_cell ha).2) (by rw [veil_size]; exact Nat.le_refl _) x cs h
theorem CrIn.lit {p : Nat → Bool} {w : World} {x : Cr} {cs : List Value} (h : CrIn p w x cs) : ∃ (k : Int) (s : BitVec 256) (n : Int) (a : Option Addr) (len cap : Nat), cs = [.int .i64 k, .int .u64 (word s 0), .int .u64 (word s 1), .int .u64 (word s 2), .int .u64 (word s 3), .int .i64 n, .slice a len cap] := at_lit h
/-- a list of cores, all of which hangs on blocks with p alone -/
def RowIn (p : Nat → Bool) (w : World) (v : Value) (L : List Cr) : Prop :=
  (v = .slice none 0 0 ∧ L = []) ∨ ∃ gb cap, v = .slice (some ⟨gb, 0, none⟩) L.length cap ∧ L.length ≤ cap ∧ L.length ≤ maxLen ∧ gb < w.heap.size ∧ coresAt (veil p w) L gb 0
theorem RowIn.mono {p q : Nat → Bool} {w w' : World} {v : Value} {L : List Cr} (h : RowIn p w v L) (hs : w.heap.size ≤ w'.heap.size) (hk : ∀ k, p k = true → k < w.heap.size → q k = true ∧ w'.heap[k]? = w.heap[k]?) : RowIn q w' v L := by
  rcases h with h | ⟨gb, cap, h1, h2, h3, h4, h5⟩
  · exact .inl h
  · exact .inr ⟨gb, cap, h1, h2, h3, by omega, coresAt_same (veil_mono hk) (by rw [veil_size, veil_size]; exact hs) _ _ _ h5⟩
theorem RowIn.shape {p : Nat → Bool} {w : World} {v : Value} {L : List Cr} (h : RowIn p w v L) : ∃ a cap, v = .slice a L.length cap := by
  rcases h with ⟨h1, h2⟩ | ⟨gb, cap, h1, _⟩
  · exact ⟨none, 0, by rw [h1, h2]; rfl⟩
  · exact ⟨_, cap, h1⟩
theorem RowIn.core {p : Nat → Bool} {w : World} {v : Value} {L : List Cr} (h : RowIn p w v L) {k n : Int} (hk : fits64 k) (hn : fits64 n) : CrIn p w (.mk k 0 n L) [.int .i64 k, .int .u64 0, .int .u64 0, .int .u64 0, .int .u64 0, .int .i64 n, v] := by
  unfold CrIn
  rw [at_mk]
  rcases h with ⟨rfl, rfl⟩ | ⟨gb, cap, rfl, h2, h3, h4, h5⟩
  · refine ⟨hk, hn, none, 0, ?_, by decide, .inl rfl⟩
    simp only [word_zero]; rfl
  · refine ⟨hk, hn, some ⟨gb, 0, none⟩, cap, ?_, h3, .inr ⟨gb, 0, rfl, h2, by rw [veil_size]; exact h4, h5⟩⟩
    simp only [word_zero]; rfl
theorem RowIn.get {p : Nat → Bool} {w : World} {v : Value} {L : List Cr} (h : RowIn p w v L) {j : Nat} (hj : j < L.length) : ∃ gb cap cs, v = .slice (some ⟨gb, 0, none⟩) L.length cap ∧ L.length ≤ cap ∧ gb < w.heap.size ∧ Core7 w gb (j * 7) cs ∧ CrIn p w L[j] cs ∧ p gb = true := by
  rcases h with ⟨_, rfl⟩ | ⟨gb, cap, rfl, h2, h3, h4, h5⟩
  · simp at hj
  · obtain ⟨cs, hc, hcell, hat⟩ := nodes_get _ gb L 0 h5 j hj
    have hcell2 : ∀ q, q < 7 → p gb = true ∧ w.cell? ⟨gb, j * 7 + q, none⟩ = cs[q]? := fun q hq => by
      have h6 := hcell q hq
      rw [Nat.zero_add] at h6
      rw [List.getElem?_eq_getElem (by omega)] at h6 ⊢
      exact veil_cell h6
    exact ⟨gb, cap, cs, rfl, h2, h4, ⟨hc, fun q hq => (hcell2 q hq).2⟩, hat, (hcell2 0 (by decide)).1⟩
/-- a list made of cores -/
theorem row_made {p : Nat → Bool} {w : World} {g : Nat} (L : List (Cr × List Value)) (hL : ∀ x ∈ L, CrIn p w x.1 x.2) (hm : L.length ≤ maxLen) (hp : p g = true) (hb : w.heap[g]? = some (.cells (L.flatMap (·.2)).toArray 30)) {n : Nat} (hn : n = L.length) :
    RowIn p w (.slice (some ⟨g, 0, none⟩) n n) (L.map (·.1)) := by
  subst hn
  refine .inr ⟨g, L.length, by rw [List.length_map], by simp, by simpa using hm, (Array.getElem?_eq_some_iff.1 hb).1, coresAt_cells L 0 hL fun q _ => ?_⟩
  have h2 : (veil p w).heap[g]? = some (.cells (L.flatMap (·.2)).toArray 30) := (veil_block hp).trans hb
  simp [World.cell?, h2]
/-- what lies at B and above -/
def fromB (B : Nat) (k : Nat) : Bool := decide (B ≤ k)
/-- what a call of the maker ends in -/
def MkPost (R : Nat) (p : Nat → Bool) (w : World) (r : Cr × Nat) (e : Ending) (w' : World) : Prop :=
  ∃ cs : List Value, e = .returned (.agg cs.toArray) ∧ CrIn p w' r.1 cs ∧ Var w' R (.int .i64 (r.2 : Int)) 86 ∧ But R w w'
theorem full_walk {w : World} {R sz : Nat} (hv : Var w R (.int .i64 (sz : Int)) 86) :
    Calls Tryz.prog 38 #[.pointer (some ⟨R, 0, none⟩)] w fun e w' => e = .returned (.bool (decide (2000 < sz))) ∧ w' = w := by
  obtain ⟨c0, f0⟩ := hv.cell
  have hd : decide ((sz : Int) > 2000) = decide (2000 < sz) := by rw [Bool.eq_iff_iff]; simp; omega
  have hd2 : decide ((2000 : Int) < (sz : Int)) = decide (2000 < sz) := by rw [Bool.eq_iff_iff]; simp; omega
  generalize decide (2000 < sz) = b at *
  go_enter Tryz.func38, Tryz.ntmps38
  go_wp2_with fail
  go_ret
  exact ⟨rfl, rfl⟩
theorem var_but {w : World} {R : Nat} {u : Value} : But R w (w.setCell ⟨R, 0, none⟩ u) := ⟨rfl, rfl, rfl, by simp, fun k _ hk => Below.heap_setCell _ _ _ _ hk⟩
set_option maxHeartbeats 2000000 in
theorem part_walk {w : World} {R sz : Nat} {p : Nat → Bool} {k : Int} {v : Value} {L : List Cr} (hv : Var w R (.int .i64 (sz : Int)) 86) (hp : p R = false) (hrow : RowIn p w v L) (hk : fits64 k) (hsz : sz ≤ 1000000000) :
    Calls Tryz.prog 65 #[.pointer (some ⟨R, 0, none⟩), .int .i64 k, v] w (MkPost R p w (.mk k 0 0 L, sz + 1)) := by
  have hlt := hv.lt
  obtain ⟨W, hW⟩ : ∃ W, W = (w.alloc (.cells #[.int .i64 0, .int .u64 0, .int .u64 0, .int .u64 0, .int .u64 0, .int .i64 0, .slice none 0 0] 30)).setCell ⟨R, 0, none⟩ (.int .i64 ((sz : Int) + 1)) := ⟨_, rfl⟩
  have hva := hv.alloc (.cells #[.int .i64 0, .int .u64 0, .int .u64 0, .int .u64 0, .int .u64 0, .int .i64 0, .slice none 0 0] 30)
  have hvW : Var W R (.int .i64 ((sz + 1 : Nat) : Int)) 86 := by rw [hW]; exact hva.set _
  have hbW : But R w W := by rw [hW]; exact (But.of_below ((Below.refl _ _).alloc (Nat.le_refl _) _)).trans var_but
  have hcW : CoreIn W w.heap.size #[.int .i64 0, .int .u64 0, .int .u64 0, .int .u64 0, .int .u64 0, .int .i64 0, .slice none 0 0] := by
    rw [hW]; exact (Below.heap_setCell _ _ _ _ (show w.heap.size ≠ R by omega)).trans (World.alloc_heap_new w _)
  obtain ⟨a, cap, hva2⟩ := hrow.shape
  have hres : ∀ w2, Only w.heap.size W w2 → CrIn p w2 (.mk k 0 0 L) [.int .i64 k, .int .u64 0, .int .u64 0, .int .u64 0, .int .u64 0, .int .i64 0, v] ∧ Var w2 R (.int .i64 ((sz + 1 : Nat) : Int)) 86 ∧ But R w w2 := fun w2 ho => by
    refine ⟨(hrow.mono (q := p) (Nat.le_trans hbW.size (Nat.le_of_eq ho.size.symm)) (fun j hj hl => ⟨hj, ?_⟩)).core hk rfl, (ho.block R (by omega)).trans hvW, hbW.only_new ho (Nat.le_refl _)⟩
    rw [ho.block j (by omega), hbW.block j hl (fun e => by rw [e, hp] at hj; cases hj)]
  generalize L.length = len at *
  subst hva2
  obtain ⟨c0, f0⟩ := hv.cell
  obtain ⟨c1, f1⟩ := hva.cell
  have hb1 : (sz : Int) ≤ 1000000000 := by omega
  have hb0 : (0 : Int) ≤ (sz : Int) := by omega
  have Hres := Lib.hid hres
  have HcW := Lib.hid hcW
  clear hrow hv hva hvW hbW hres hcW hlt
  go_enter Tryz.func65, Tryz.ntmps65
  go_upto_region 2 with fail
  rw [← hW]
  clear hW
  go_wp2_with (refine wpList_store_core rfl _ _ rfl w.heap.size _ #[.int .i64 k, .int .u64 0, .int .u64 0, .int .u64 0, .int .u64 0, .int .i64 0, .slice a len cap] rfl rfl HcW.out rfl rfl (by simp [Value.oneCell']) ?_; intro w2 hn2 ho2)
  refine bodyPost_ret (v := .agg #[.int .i64 k, .int .u64 0, .int .u64 0, .int .u64 0, .int .u64 0, .int .i64 0, .slice a len cap]) (results_core rfl _ _ w.heap.size _ rfl hn2 rfl) rfl ⟨_, rfl, Hres.out w2 ho2⟩
theorem still_load_core {o : Oper} {a : Act} {w : World} {K : Act → Prop} (x : Operand) (ho : o.op = .load 30 x) (b off : Nat) (cs : List Value) (hx : a.eval x = .pointer (some ⟨b, off, none⟩)) (hc : Core7 w b off cs)
    (hK : K (a.put o.dst (.agg cs.toArray))) : o.still Tryz.prog a w K := by
  unfold Oper.still execOp
  simp only [ho, hx, Instr.loadAt, Instr.sureAddr, Sem.run_bind, Sem.run_pure, Result.andThen_ok, loadCore hc]
  exact ⟨rfl, hK⟩
theorem still_load_node {o : Oper} {a : Act} {w : World} {K : Act → Prop} (x : Operand) (ho : o.op = .load 39 x) (b off : Nat) (cs : List Value) (hx : a.eval x = .pointer (some ⟨b, off, none⟩)) (hc : Node9 w b off cs)
    (hK : K (a.put o.dst (.agg cs.toArray))) : o.still Tryz.prog a w K := by
  unfold Oper.still execOp
  simp only [ho, hx, Instr.loadAt, Instr.sureAddr, Sem.run_bind, Sem.run_pure, Result.andThen_ok, loadNode hc]
  exact ⟨rfl, hK⟩
theorem join_step (k : Int) (L : List Cr) (j : Nat) (hj : j + 1 < L.length) : joinC k (L.drop j) = .mk k 0 0 [L[j], joinC k (L.drop (j + 1))] := by
  rw [List.drop_eq_getElem_cons (by omega)]
  have h : L.drop (j + 1) ≠ [] := by
    intro h
    have := congrArg List.length h
    rw [List.length_drop, List.length_nil] at this; omega
  cases hd : L.drop (j + 1) with
  | nil => exact absurd hd h
  | cons y l => rfl
theorem wp_load_core {o : Oper} {a : Act} {w : World} {K : Act → World → Prop} {Q : Exit → Act → World → Prop} (x : Operand) (ho : o.op = .load 30 x) (b off : Nat) (cs : List Value) (hx : a.eval x = .pointer (some ⟨b, off, none⟩)) (hc : Core7 w b off cs)
    (h : K (a.put o.dst (.agg cs.toArray)) w) : o.wp Tryz.prog a w K Q := by
  unfold Oper.wp execOp
  simp only [ho, hx, Instr.loadAt, Instr.sureAddr, Sem.run_bind, Sem.run_pure, Result.andThen_ok, loadCore hc]
  exact h
theorem wp_load_nodeK {o : Oper} {a : Act} {w : World} {K : Act → World → Prop} {Q : Exit → Act → World → Prop} (x : Operand) (ho : o.op = .load 39 x) (b off : Nat) (cs : List Value) (hx : a.eval x = .pointer (some ⟨b, off, none⟩)) (hc : Node9 w b off cs)
    (h : K (a.put o.dst (.agg cs.toArray)) w) : o.wp Tryz.prog a w K Q := by
  unfold Oper.wp execOp
  simp only [ho, hx, Instr.loadAt, Instr.sureAddr, Sem.run_bind, Sem.run_pure, Result.andThen_ok, loadNode hc]
  exact h
theorem wp_store_core {o : Oper} {a : Act} {w : World} {K : Act → World → Prop} {Q : Exit → Act → World → Prop} (x y : Operand) (ho : o.op = .store 30 x y) (b : Nat) (cs ds : Array Value) (hx : a.eval x = .pointer (some ⟨b, 0, none⟩)) (hy : a.eval y = .agg ds)
    (hb : CoreIn w b cs) (hd : ds.size = 7) (hc : cs.size = 7) (h1 : (ds.all fun x => x.oneCell') = true) (h : ∀ w', CoreIn w' b ds → Only b w w' → K (a.put o.dst undef) w') : o.wp Tryz.prog a w K Q :=
  wp_store_row _ _ _ ho b _ hx hy _ _ hb (by rw [hd]; exact infoCore) (by rw [hd, hc]) h1 (h _ (setRow_heap w b _ _ _ _ hb) (only_row _ _ _))
-- GEN
set_option maxHeartbeats 4000000 in
theorem join_walk {w : World} {R sz : Nat} {p : Nat → Bool} {k : Int} {v : Value} {L : List Cr} (hv : Var w R (.int .i64 (sz : Int)) 86) (hp : p R = false) (hrow : RowIn p w v L) (hne : L ≠ []) (hk : fits64 k) (hsz : sz ≤ 100000000) (hL : L.length ≤ 100000) :
    Calls Tryz.prog 66 #[.pointer (some ⟨R, 0, none⟩), .int .i64 k, v] w (MkPost R (fun b => p b || decide (w.heap.size ≤ b)) w (joinM k (L, sz))) := by
  have hlt := hv.lt
  have hpos := List.length_pos_iff.mpr hne
  obtain ⟨n, hn⟩ : ∃ n, n = L.length := ⟨_, rfl⟩
  obtain ⟨gb, cap, cs0, hve, hcap, hgb, hc0, hin0, hpg⟩ := hrow.get (j := n - 1) (by omega)
  rw [← hn] at hve hcap
  subst hve
  -- what the two boxes are no part of
  obtain ⟨q, hq⟩ : ∃ q : Nat → Bool, q = fun b => (p b && decide (b < w.heap.size)) || decide (w.heap.size + 2 ≤ b) := ⟨_, rfl⟩
  have hq1 : ∀ b, p b = true → b < w.heap.size → q b = true := fun b h1 h2 => by rw [hq]; simp [h1, h2]
  have hq2 : ∀ b, w.heap.size + 2 ≤ b → q b = true := fun b h => by rw [hq]; simp [h]
  have hq3 : ∀ b, q b = true → b ≠ w.heap.size ∧ b ≠ w.heap.size + 1 ∧ b ≠ R ∧ (p b || decide (w.heap.size ≤ b)) = true := fun b h => by
    rw [hq] at h
    simp only [Bool.or_eq_true, Bool.and_eq_true, decide_eq_true_eq] at h ⊢
    rcases h with ⟨h1, h2⟩ | h
    · exact ⟨by omega, by omega, (fun e => by rw [e, hp] at h1; cases h1), .inl h1⟩
    · exact ⟨by omega, by omega, by omega, .inr (by omega)⟩
  have hqR : q R = false := by
    cases h : q R with
    | false => rfl
    | true => exact absurd rfl (hq3 R h).2.2.1
  clear hq
  obtain ⟨kq, sq, nq, aq, lenq, capq, rfl⟩ := hin0.lit
  obtain ⟨y0, hjn, hin1⟩ : ∃ y0, joinC k (L.drop (n - 1)) = y0 ∧ CrIn p w y0 [.int .i64 kq, .int .u64 (word sq 0), .int .u64 (word sq 1), .int .u64 (word sq 2), .int .u64 (word sq 3), .int .i64 nq, .slice aq lenq capq] :=
    ⟨_, by rw [List.drop_eq_getElem_cons (by omega), List.drop_of_length_le (by omega)]; rfl, hin0⟩
  have HN := Lib.hid (And.intro hn (And.intro hpos hjn))
  have Hrow := Lib.hid hrow
  have Hc0 := Lib.hid hc0
  have Hin0 := Lib.hid hin1
  have HQ := Lib.hid (And.intro hq1 (And.intro hq2 (And.intro hq3 hqR)))
  have Hv := Lib.hid hv
  have Hk := Lib.hid hk
  have h1 : ((n : Int) - 1).toNat = n - 1 := by omega
  have h2 : (0 : Int) ≤ (n : Int) - 1 := by omega
  have h3 : (n : Int) - 1 < (n : Int) := by omega
  have hnn : n ≤ 100000 := by omega
  have hnn1 : 1 ≤ n := by omega
  have hlast : (n : Int) - 1 = ((n - 1 : Nat) : Int) := by omega
  clear hrow hc0 hin0 hin1 hq1 hq2 hq3 hqR hv hk hn hpos hjn hne hL hcap hp
  go_enter Tryz.func66, Tryz.ntmps66
  go_upto_region 2 with fail
  have hn0 : CoreIn ((w.alloc (.cells #[.int .i64 0, .int .u64 0, .int .u64 0, .int .u64 0, .int .u64 0, .int .i64 0, .slice none 0 0] 30)).alloc (.cells #[.int .i64 0, .int .u64 0, .int .u64 0, .int .u64 0, .int .u64 0, .int .i64 0, .slice none 0 0] 30)) (w.heap.size + 1) #[.int .i64 0, .int .u64 0, .int .u64 0, .int .u64 0, .int .u64 0, .int .i64 0, .slice none 0 0] := by
    have h := World.alloc_heap_new (w.alloc (.cells #[.int .i64 0, .int .u64 0, .int .u64 0, .int .u64 0, .int .u64 0, .int .i64 0, .slice none 0 0] 30)) (.cells #[.int .i64 0, .int .u64 0, .int .u64 0, .int .u64 0, .int .u64 0, .int .i64 0, .slice none 0 0] 30)
    rw [World.size_alloc] at h
    exact h
  have hc1 : Core7 (w.alloc (.cells #[.int .i64 0, .int .u64 0, .int .u64 0, .int .u64 0, .int .u64 0, .int .i64 0, .slice none 0 0] 30)) gb ((n - 1) * 7) _ := ⟨Hc0.out.1, fun q hq => by rw [((Below.refl w.heap.size w).alloc (Nat.le_refl _) _).cell (p := ⟨gb, (n - 1) * 7 + q, none⟩) hgb]; exact Hc0.out.2 q hq⟩
  have Hn0 := Lib.hid hn0
  have Hc1 := Lib.hid hc1
  clear hn0 hc1
  have h4 : n - 1 < n := by omega
  clear h1 h2 h3
  go_wp2_with (first | (refine wpList_load_core rfl _ rfl gb ((n - 1) * 7) _ rfl Hc1.out ?_) | (refine wpList_store_core rfl _ _ rfl (w.heap.size + 1) _ #[.int .i64 kq, .int .u64 (word sq 0), .int .u64 (word sq 1), .int .u64 (word sq 2), .int .u64 (word sq 3), .int .i64 nq, .slice aq lenq capq] rfl rfl Hn0.out rfl rfl (by simp [Value.oneCell']) ?_; intro w2 hn2 ho2; have Hw2 := Lib.hid (And.intro hn2 ho2); clear hn2 ho2))
  have hal : Below w.heap.size w ((w.alloc (.cells #[.int .i64 0, .int .u64 0, .int .u64 0, .int .u64 0, .int .u64 0, .int .i64 0, .slice none 0 0] 30)).alloc (.cells #[.int .i64 0, .int .u64 0, .int .u64 0, .int .u64 0, .int .u64 0, .int .i64 0, .slice none 0 0] 30)) := ((Below.refl _ _).alloc (Nat.le_refl _) _).alloc (by simp) _
  have hbw2 : Below w.heap.size w w2 := Hw2.out.2.below hal (Nat.le_succ _)
  have hs2 : w.heap.size + 2 ≤ w2.heap.size := by rw [Hw2.out.2.size]; simp
  have hres0 : CoreIn w2 w.heap.size #[.int .i64 0, .int .u64 0, .int .u64 0, .int .u64 0, .int .u64 0, .int .i64 0, .slice none 0 0] := by
    refine (Hw2.out.2.block w.heap.size (by omega)).trans ((Below.heap_alloc _ _ _ (by simp)).trans (World.alloc_heap_new w _))
  have hrow2 : RowIn q w2 (.slice (some ⟨gb, 0, none⟩) n cap) L := Hrow.out.mono hbw2.size fun b h1 h2 => ⟨HQ.out.1 b h1 h2, hbw2.block b h2⟩
  have hy2 : CrIn q w2 y0 [.int .i64 kq, .int .u64 (word sq 0), .int .u64 (word sq 1), .int .u64 (word sq 2), .int .u64 (word sq 3), .int .i64 nq, .slice aq lenq capq] := Hin0.out.mono hbw2.size fun b h1 h2 => ⟨HQ.out.1 b h1 h2, hbw2.block b h2⟩
  have H2 := Lib.hid (And.intro hbw2 (And.intro hs2 (And.intro hres0 (And.intro hrow2 hy2))))
  clear hal hbw2 hs2 hres0 hrow2 hy2 Hc0 Hin0 Hn0 Hc1
  go_wp2_with fail
  go_loopw [9] (fun i wr => ∃ (j : Nat) (y : Cr) (ds : List Value), i = .int .i64 ((j : Int) - 1) ∧ j ≤ n - 1 ∧ Hid (joinC k (L.drop j) = y) ∧ Hid (CrIn q wr y ds) ∧ Hid (CoreIn wr (w.heap.size + 1) ds.toArray) ∧ Hid (RowIn q wr (.slice (some ⟨gb, 0, none⟩) n cap) L) ∧
    Hid (Var wr R (.int .i64 ((sz + (n - 1 - j) : Nat) : Int)) 86) ∧ Hid (CoreIn wr w.heap.size #[.int .i64 0, .int .u64 0, .int .u64 0, .int .u64 0, .int .u64 0, .int .i64 0, .slice none 0 0]) ∧ Hid (But R w wr) ∧ Hid (w.heap.size + 2 ≤ wr.heap.size)) (fun i _ => (intOf i + 1).toNat)
  case atStart =>
    exact ⟨n - 1, y0, _, rfl, Nat.le_refl _, HN.out.2.2, H2.out.2.2.2.2, Hw2.out.1, H2.out.2.2.2.1, by rw [Nat.sub_self]; exact (H2.out.1.block R hlt).trans Hv.out, H2.out.2.2.1, But.of_below H2.out.1, H2.out.2.1⟩
  case round =>
    obtain ⟨j, y, ds, rfl, hj, hjo, hy, hbox, hrw, hvr, hrs, hbut, hsz2⟩ := hrel
    clear H2 Hw2
    obtain ⟨ky, sy, ny, ay, leny, capy, rfl⟩ := hy.out.lit
    have hbx7 := core7_in (cs := [.int .i64 ky, .int .u64 (word sy 0), .int .u64 (word sy 1), .int .u64 (word sy 2), .int .u64 (word sy 3), .int .i64 ny, .slice ay leny capy]) hbox.out rfl
    have Hbx7 := Lib.hid hbx7
    clear hbx7
    by_cases hj0 : 1 ≤ j
    · obtain ⟨j, rfl⟩ : ∃ j1, j = j1 + 1 := ⟨j - 1, by omega⟩
      have hjj : ((j + 1 : Nat) : Int) - 1 = (j : Int) := by omega
      rw [hjj]
      have hd : decide ((j : Int) ≥ 0) = true := by simp
      have hd2 : decide ((0 : Int) ≤ (j : Int)) = true := by simp
      have hjn1 : j < n := by omega
      obtain ⟨gb', cap', cs, he, hcap', hgb', hc7, hinx, _⟩ := hrw.out.get (j := j) (by have := HN.out.1; omega)
      injection he with e1 e2 e3
      cases e1
      clear e2
      subst e3
      obtain ⟨kx, sx, nx, ax, lenx, capx, rfl⟩ := hinx.lit
      obtain ⟨x0, hx0, hinx2⟩ : ∃ x0, x0 = L[j]'(by have := HN.out.1; omega) ∧ CrIn q wr x0 [.int .i64 kx, .int .u64 (word sx 0), .int .u64 (word sx 1), .int .u64 (word sx 2), .int .u64 (word sx 3), .int .i64 nx, .slice ax lenx capx] := ⟨_, rfl, hinx⟩
      have hjoin : joinC k (L.drop j) = .mk k 0 0 [x0, y] := by
        have h := join_step k L j (by have := HN.out.1; omega)
        rw [hjo.out, ← hx0] at h
        exact h
      have Hjoin := Lib.hid hjoin
      have Hc7 := Lib.hid hc7
      have Hinx := Lib.hid hinx2
      have hcapn : n ≤ cap := by have := HN.out.1; omega
      obtain ⟨W5, hW5⟩ : ∃ W5, W5 = (wr.alloc (.cells #[.int .i64 kx, .int .u64 (word sx 0), .int .u64 (word sx 1), .int .u64 (word sx 2), .int .u64 (word sx 3), .int .i64 nx, .slice ax lenx capx, .int .i64 ky, .int .u64 (word sy 0), .int .u64 (word sy 1), .int .u64 (word sy 2), .int .u64 (word sy 3), .int .i64 ny, .slice ay leny capy] 30)).drew := ⟨_, rfl⟩
      have hb5 : Below wr.heap.size wr W5 := by rw [hW5]; exact ((Below.refl _ _).alloc (Nat.le_refl _) _).drew
      have hg5 : W5.heap[wr.heap.size]? = some (.cells #[.int .i64 kx, .int .u64 (word sx 0), .int .u64 (word sx 1), .int .u64 (word sx 2), .int .u64 (word sx 3), .int .i64 nx, .slice ax lenx capx, .int .i64 ky, .int .u64 (word sy 0), .int .u64 (word sy 1), .int .u64 (word sy 2), .int .u64 (word sy 3), .int .i64 ny, .slice ay leny capy] 30) := by
        rw [hW5]; exact World.alloc_heap_new wr _
      have hrow5 : RowIn q W5 (.slice (some ⟨wr.heap.size, 0, none⟩) 2 2) [x0, y] :=
        row_made (p := q) (g := wr.heap.size) [(x0, [.int .i64 kx, .int .u64 (word sx 0), .int .u64 (word sx 1), .int .u64 (word sx 2), .int .u64 (word sx 3), .int .i64 nx, .slice ax lenx capx]), (y, [.int .i64 ky, .int .u64 (word sy 0), .int .u64 (word sy 1), .int .u64 (word sy 2), .int .u64 (word sy 3), .int .i64 ny, .slice ay leny capy])]
          (by
            intro z hz
            rcases List.mem_cons.1 hz with rfl | hz
            · exact Hinx.out.mono hb5.size fun b h1 h2 => ⟨h1, hb5.block b h2⟩
            · rw [List.mem_singleton] at hz; subst hz
              exact hy.out.mono hb5.size fun b h1 h2 => ⟨h1, hb5.block b h2⟩) (by simp [maxLen]) (HQ.out.2.1 _ hsz2.out) hg5 rfl
      have hvr5 : Var W5 R (.int .i64 ((sz + (n - 1 - (j + 1)) : Nat) : Int)) 86 := hvr.out.below hb5 (Nat.lt_of_lt_of_le hlt hbut.out.size)
      have hpart := part_walk hvr5 HQ.out.2.2.2 hrow5 Hk.out (by omega)
      rw [← Hjoin.out] at hpart
      have Hpart := Lib.hid hpart
      have H5 := Lib.hid (And.intro hb5 hg5)
      clear hjoin hc7 hinx hinx2 hx0 hcap' hb5 hg5 hrow5 hvr5 hpart hnn1 hlast h4

      go_upto_region 6 with fail
      refine wp_region_free (.plain 0 (.plain 1 (.plain 2 (.plain 3 (.plain 4 (.fork 5 (.sole 6 (.sole 7 (.sole 8 (.sole 9 .done)))) 6 (.sole 5 (.sole 7 (.sole 8 (.sole 9 .done)))))))))) (by kernel_rfl) (by kernel_rfl) (fun c a d v w h => by cases d <;> exact h) ?_
      have Hc7 : Hid (Core7 wr.drew gb (j * 7) _) := Hc7
      have Hbx7 : Hid (Core7 wr.drew (w.heap.size + 1) 0 _) := Hbx7
      iterate 5
        refine' free_plain ?_ ?_ (fun K hK => ?_)
        rotate_left 1
        · simp only [List.getElem?_toArray, List.getElem?_cons_zero, List.getElem?_cons_succ]; exact rfl
        · exact rfl
        go_big_quiet_op
        refine hK _ ?_
        clear hK K
        try simp only [Act.put, List.setIfInBounds_toArray, List.set_cons_zero, List.set_cons_succ]
      refine free_fork ?_ ?_
      · refine' free_step ?_ ?_ (fun K hK => ?_)
        rotate_left 1
        · simp only [List.getElem?_toArray, List.getElem?_cons_zero, List.getElem?_cons_succ]; exact rfl
        · exact rfl
        refine wp_load_core _ rfl gb (j * 7) _ rfl Hc7.out ?_
        refine hK _ _ ?_
        clear hK K
        try simp only [Act.put, List.setIfInBounds_toArray, List.set_cons_zero, List.set_cons_succ]
        refine' free_sole ?_ ?_ (fun K hK => ?_)
        rotate_left 1
        · simp only [List.getElem?_toArray, List.getElem?_cons_zero, List.getElem?_cons_succ]; exact rfl
        · exact rfl
        refine wp_load_core _ rfl (w.heap.size + 1) 0 _ rfl Hbx7.out ?_
        refine hK _ _ ?_
        clear hK K
        try simp only [Act.put, List.setIfInBounds_toArray, List.set_cons_zero, List.set_cons_succ]
        refine' free_sole ?_ ?_ (fun K hK => ?_)
        rotate_left 1
        · simp only [List.getElem?_toArray, List.getElem?_cons_zero, List.getElem?_cons_succ]; exact rfl
        · exact rfl
        unfold Oper.wp execOp
        go_simp
        refine hK _ _ ?_
        clear hK K
        rw [← hW5]
        clear hW5
        refine' free_sole ?_ ?_ (fun K hK => ?_)
        rotate_left 1
        · simp only [List.getElem?_toArray, List.getElem?_cons_zero, List.getElem?_cons_succ]; exact rfl
        · exact rfl
        go_simp
        refine (Hpart.out).mono ?_
        rintro e wn ⟨dn, rfl, hinn, hvn, hbn⟩
        refine hK _ _ ?_
        have Hn := Lib.hid (And.intro hinn (And.intro hvn hbn))
        clear hinn hvn hbn
        clear hK K
        try simp only [Act.put, List.setIfInBounds_toArray, List.set_cons_zero, List.set_cons_succ]
        obtain ⟨kd, sd, nd, ad, lend, capd, rfl⟩ := Hn.out.1.lit
        have hboxn : CoreIn wn (w.heap.size + 1) #[.int .i64 ky, .int .u64 (word sy 0), .int .u64 (word sy 1), .int .u64 (word sy 2), .int .u64 (word sy 3), .int .i64 ny, .slice ay leny capy] := (Hn.out.2.2.block _ (Nat.lt_of_lt_of_le (lt_of_block hbox.out) H5.out.1.size) (by omega)).trans ((H5.out.1.block _ (lt_of_block hbox.out)).trans hbox.out)
        have Hboxn := Lib.hid hboxn
        clear hboxn
        refine' free_sole ?_ ?_ (fun K hK => ?_)
        rotate_left 1
        · simp only [List.getElem?_toArray, List.getElem?_cons_zero, List.getElem?_cons_succ]; exact rfl
        · exact rfl
        refine wp_store_core _ _ rfl (w.heap.size + 1) _ #[.int .i64 kd, .int .u64 (word sd 0), .int .u64 (word sd 1), .int .u64 (word sd 2), .int .u64 (word sd 3), .int .i64 nd, .slice ad lend capd] rfl rfl Hboxn.out rfl rfl (by simp [Value.oneCell']) ?_
        intro w8 hs8 ho8
        refine hK _ _ ?_
        have H8 := Lib.hid (And.intro hs8 ho8)
        clear hs8 ho8
        clear hK K
        try simp only [Act.put]
        refine free_done ?_
        go_wp2_with fail
        go_roundw
        case rel =>
          refine ⟨j, _, _, by go_num, by omega, rfl, ?_, H8.out.1, ?_, ?_, ?_, ?_, ?_⟩
          · exact Hn.out.1.mono (Nat.le_of_eq H8.out.2.size.symm) fun b h1 h2 => ⟨h1, H8.out.2.block b (HQ.out.2.2.1 b h1).2.1⟩
          · refine hrw.out.mono (Nat.le_trans H5.out.1.size (Nat.le_trans Hn.out.2.2.size (Nat.le_of_eq H8.out.2.size.symm))) fun b h1 h2 => ⟨h1, ?_⟩
            have h3 := HQ.out.2.2.1 b h1
            rw [H8.out.2.block b h3.2.1, Hn.out.2.2.block b (Nat.lt_of_lt_of_le h2 H5.out.1.size) h3.2.2.1, H5.out.1.block b h2]
          · have h := Hn.out.2.1
            rw [show sz + (n - 1 - (j + 1)) + 1 = sz + (n - 1 - j) from by omega] at h
            exact (H8.out.2.block R (by omega)).trans h
          · exact (H8.out.2.block _ (by omega)).trans ((Hn.out.2.2.block _ (Nat.lt_of_lt_of_le (lt_of_block hrs.out) H5.out.1.size) (by omega)).trans ((H5.out.1.block _ (lt_of_block hrs.out)).trans hrs.out))
          · exact ((hbut.out.trans (But.of_below H5.out.1)).trans Hn.out.2.2).only_new H8.out.2 (by omega)
          · show _ ≤ _; rw [H8.out.2.size]; exact Nat.le_trans hsz2.out (Nat.le_trans H5.out.1.size Hn.out.2.2.size)
        case measure => (simp [intOf] <;> omega)
      · refine' free_step ?_ ?_ (fun K hK => ?_)
        rotate_left 1
        · simp only [List.getElem?_toArray, List.getElem?_cons_zero, List.getElem?_cons_succ]; exact rfl
        · exact rfl
        refine wp_load_core _ rfl (w.heap.size + 1) 0 _ rfl Hbx7.out ?_
        refine hK _ _ ?_
        clear hK K
        try simp only [Act.put, List.setIfInBounds_toArray, List.set_cons_zero, List.set_cons_succ]
        refine' free_sole ?_ ?_ (fun K hK => ?_)
        rotate_left 1
        · simp only [List.getElem?_toArray, List.getElem?_cons_zero, List.getElem?_cons_succ]; exact rfl
        · exact rfl
        refine wp_load_core _ rfl gb (j * 7) _ rfl Hc7.out ?_
        refine hK _ _ ?_
        clear hK K
        try simp only [Act.put, List.setIfInBounds_toArray, List.set_cons_zero, List.set_cons_succ]
        refine' free_sole ?_ ?_ (fun K hK => ?_)
        rotate_left 1
        · simp only [List.getElem?_toArray, List.getElem?_cons_zero, List.getElem?_cons_succ]; exact rfl
        · exact rfl
        unfold Oper.wp execOp
        go_simp
        refine hK _ _ ?_
        clear hK K
        rw [← hW5]
        clear hW5
        refine' free_sole ?_ ?_ (fun K hK => ?_)
        rotate_left 1
        · simp only [List.getElem?_toArray, List.getElem?_cons_zero, List.getElem?_cons_succ]; exact rfl
        · exact rfl
        go_simp
        refine (Hpart.out).mono ?_
        rintro e wn ⟨dn, rfl, hinn, hvn, hbn⟩
        refine hK _ _ ?_
        have Hn := Lib.hid (And.intro hinn (And.intro hvn hbn))
        clear hinn hvn hbn
        clear hK K
        try simp only [Act.put, List.setIfInBounds_toArray, List.set_cons_zero, List.set_cons_succ]
        obtain ⟨kd, sd, nd, ad, lend, capd, rfl⟩ := Hn.out.1.lit
        have hboxn : CoreIn wn (w.heap.size + 1) #[.int .i64 ky, .int .u64 (word sy 0), .int .u64 (word sy 1), .int .u64 (word sy 2), .int .u64 (word sy 3), .int .i64 ny, .slice ay leny capy] := (Hn.out.2.2.block _ (Nat.lt_of_lt_of_le (lt_of_block hbox.out) H5.out.1.size) (by omega)).trans ((H5.out.1.block _ (lt_of_block hbox.out)).trans hbox.out)
        have Hboxn := Lib.hid hboxn
        clear hboxn
        refine' free_sole ?_ ?_ (fun K hK => ?_)
        rotate_left 1
        · simp only [List.getElem?_toArray, List.getElem?_cons_zero, List.getElem?_cons_succ]; exact rfl
        · exact rfl
        refine wp_store_core _ _ rfl (w.heap.size + 1) _ #[.int .i64 kd, .int .u64 (word sd 0), .int .u64 (word sd 1), .int .u64 (word sd 2), .int .u64 (word sd 3), .int .i64 nd, .slice ad lend capd] rfl rfl Hboxn.out rfl rfl (by simp [Value.oneCell']) ?_
        intro w8 hs8 ho8
        refine hK _ _ ?_
        have H8 := Lib.hid (And.intro hs8 ho8)
        clear hs8 ho8
        clear hK K
        try simp only [Act.put]
        refine free_done ?_
        go_wp2_with fail
        go_roundw
        case rel =>
          refine ⟨j, _, _, by go_num, by omega, rfl, ?_, H8.out.1, ?_, ?_, ?_, ?_, ?_⟩
          · exact Hn.out.1.mono (Nat.le_of_eq H8.out.2.size.symm) fun b h1 h2 => ⟨h1, H8.out.2.block b (HQ.out.2.2.1 b h1).2.1⟩
          · refine hrw.out.mono (Nat.le_trans H5.out.1.size (Nat.le_trans Hn.out.2.2.size (Nat.le_of_eq H8.out.2.size.symm))) fun b h1 h2 => ⟨h1, ?_⟩
            have h3 := HQ.out.2.2.1 b h1
            rw [H8.out.2.block b h3.2.1, Hn.out.2.2.block b (Nat.lt_of_lt_of_le h2 H5.out.1.size) h3.2.2.1, H5.out.1.block b h2]
          · have h := Hn.out.2.1
            rw [show sz + (n - 1 - (j + 1)) + 1 = sz + (n - 1 - j) from by omega] at h
            exact (H8.out.2.block R (by omega)).trans h
          · exact (H8.out.2.block _ (by omega)).trans ((Hn.out.2.2.block _ (Nat.lt_of_lt_of_le (lt_of_block hrs.out) H5.out.1.size) (by omega)).trans ((H5.out.1.block _ (lt_of_block hrs.out)).trans hrs.out))
          · exact ((hbut.out.trans (But.of_below H5.out.1)).trans Hn.out.2.2).only_new H8.out.2 (by omega)
          · show _ ≤ _; rw [H8.out.2.size]; exact Nat.le_trans hsz2.out (Nat.le_trans H5.out.1.size Hn.out.2.2.size)
        case measure => (simp [intOf] <;> omega)
    · obtain rfl : j = 0 := by omega
      have hd : decide (((0 : Nat) : Int) - 1 ≥ 0) = false := by simp
      have hd2 : decide ((0 : Int) ≤ ((0 : Nat) : Int) - 1) = false := by simp
      have hend : MkPost R (fun b => p b || decide (w.heap.size ≤ b)) w (joinM k (L, sz)) (.returned (.agg #[.int .i64 ky, .int .u64 (word sy 0), .int .u64 (word sy 1), .int .u64 (word sy 2), .int .u64 (word sy 3), .int .i64 ny, .slice ay leny capy])) wr ∧ True := ⟨⟨_, rfl, by
          show CrIn _ wr (joinC k L) _
          have h := hjo.out
          rw [List.drop_zero] at h
          rw [h]
          exact hy.out.mono (Nat.le_refl _) fun b h1 h2 => ⟨(HQ.out.2.2.1 b h1).2.2.2, rfl⟩, by
          show Var wr R (.int .i64 ((sz + (L.length - 1) : Nat) : Int)) _
          rw [← HN.out.1]
          exact hvr.out, hbut.out⟩, trivial⟩
      have Hend := Lib.hid hend
      clear hend
      go_wp2_with (first | (refine wpList_load_core rfl _ rfl (w.heap.size + 1) 0 _ rfl Hbx7.out ?_) | (refine wpList_store_core rfl _ _ rfl w.heap.size _ #[.int .i64 ky, .int .u64 (word sy 0), .int .u64 (word sy 1), .int .u64 (word sy 2), .int .u64 (word sy 3), .int .i64 ny, .slice ay leny capy] rfl rfl hrs.out rfl rfl (by simp [Value.oneCell']) ?_; intro w9 hs9 ho9; have H9 := Lib.hid (And.intro hs9 ho9); clear hs9 ho9))
      refine bodyPost_ret (v := .agg #[.int .i64 ky, .int .u64 (word sy 0), .int .u64 (word sy 1), .int .u64 (word sy 2), .int .u64 (word sy 3), .int .i64 ny, .slice ay leny capy]) (results_core rfl _ _ w.heap.size _ rfl H9.out.1 rfl) rfl ?_
      obtain ⟨⟨cs9, e9, h91, h92, h93⟩, _⟩ := Hend.out
      injection e9 with e9
      injection e9 with e9
      have e10 : cs9 = [.int .i64 ky, .int .u64 (word sy 0), .int .u64 (word sy 1), .int .u64 (word sy 2), .int .u64 (word sy 3), .int .i64 ny, .slice ay leny capy] := by
        have := congrArg Array.toList e9; simpa using this.symm
      subst e10
      refine ⟨_, rfl, ?_, (H9.out.2.block R (by omega)).trans h92, h93.only_new H9.out.2 (Nat.le_refl _)⟩
      show CrIn _ w9 (joinC k L) _
      have h := hjo.out
      rw [List.drop_zero] at h
      rw [h]
      exact hy.out.mono (Nat.le_of_eq H9.out.2.size.symm) fun b h1 h2 => ⟨(HQ.out.2.2.1 b h1).2.2.2, H9.out.2.block b (HQ.out.2.2.1 b h1).1⟩
end K
end Go.Proofs.YtlgpbgcheeaalaaGreatDoor
/-! The maker of a core: copy and optional, walked. -/
namespace Go.Proofs.YtlgpbgcheeaalaaGreatDoor
namespace K
set_option maxRecDepth 100000
open Go.RowKit
/-- what the maker's node does at one node -/
def NodeOk (W0 : World) (R : Nat) (cs : List Value) (f : Mk) : Prop := ∀ (w : World) (sz : Nat), Below W0.heap.size W0 w → Var w R (.int .i64 (sz : Int)) 86 → sz ≤ 100000000 →
  Calls Tryz.prog 37 #[.pointer (some ⟨R, 0, none⟩), .agg cs.toArray] w (MkPost R (fromB w.heap.size) w (f sz))
theorem fromB_le {A B b : Nat} (h : fromB A b = true) (hB : B ≤ A) : fromB B b = true := by
  unfold fromB at h ⊢
  rw [decide_eq_true_eq] at h ⊢
  omega
theorem fromB_ge {A b : Nat} (h : fromB A b = true) : A ≤ b := by
  unfold fromB at h
  rwa [decide_eq_true_eq] at h
theorem fromB_yes {A b : Nat} (h : A ≤ b) : fromB A b = true := by
  unfold fromB
  rwa [decide_eq_true_eq]
theorem fromB_no {A b : Nat} (h : b < A) : fromB A b = false := by
  unfold fromB
  rw [decide_eq_false_iff_not]
  omega
/-- what lies at B and above, but c -/
def fromC (B c b : Nat) : Bool := decide (B ≤ b) && b != c
theorem fromC_iff {B c b : Nat} : fromC B c b = true ↔ B ≤ b ∧ b ≠ c := by
  unfold fromC
  simp
theorem fromC_no {B c b : Nat} (h : b < B) : fromC B c b = false := by
  cases hb : fromC B c b with
  | false => rfl
  | true => have := fromC_iff.1 hb; omega
theorem drew_below (w : World) : Below w.heap.size w w.drew := (Below.refl _ _).drew
theorem CrIn.step {p q : Nat → Bool} {R : Nat} {w w' : World} {x : Cr} {cs : List Value} (h : CrIn p w x cs) (hb : But R w w') (hp : ∀ k, p k = true → k < w.heap.size → q k = true ∧ k ≠ R) : CrIn q w' x cs :=
  h.mono hb.size fun k h1 h2 => ⟨(hp k h1 h2).1, hb.block k h2 (hp k h1 h2).2⟩
theorem CrIn.onto {p q : Nat → Bool} {c : Nat} {w w' : World} {x : Cr} {cs : List Value} (h : CrIn p w x cs) (hb : Only c w w') (hp : ∀ k, p k = true → k < w.heap.size → q k = true ∧ k ≠ c) : CrIn q w' x cs :=
  h.mono (Nat.le_of_eq hb.size.symm) fun k h1 h2 => ⟨(hp k h1 h2).1, hb.block k (hp k h1 h2).2⟩
theorem CrIn.later {p q : Nat → Bool} {w w' : World} {x : Cr} {cs : List Value} (h : CrIn p w x cs) (hb : Below w.heap.size w w') (hp : ∀ k, p k = true → k < w.heap.size → q k = true) : CrIn q w' x cs :=
  h.mono hb.size fun k h1 h2 => ⟨hp k h1 h2, hb.block k h2⟩
theorem core_but {R c : Nat} {w w' : World} {cs : Array Value} (h : But R w w') (hn : CoreIn w c cs) (hc : c ≠ R) : CoreIn w' c cs := (h.block c (lt_of_block hn) hc).trans hn
theorem core_only {R c : Nat} {w w' : World} {cs : Array Value} (h : Only R w w') (hn : CoreIn w c cs) (hc : c ≠ R) : CoreIn w' c cs := (h.block c hc).trans hn
theorem core_later {c : Nat} {w w' : World} {cs : Array Value} (h : Below w.heap.size w w') (hn : CoreIn w c cs) : CoreIn w' c cs := (h.block c (lt_of_block hn)).trans hn
theorem var_only {R c : Nat} {w w' : World} {v : Value} {t : TypeId} (h : Only c w w') (hn : Var w R v t) (hc : R ≠ c) : Var w' R v t := (h.block R hc).trans hn
theorem one_part {q : Nat → Bool} {R sz : Nat} {wr : World} {x : Cr} {cs : List Value} {k : Int} (hx : CrIn q wr x cs) (hv : Var wr R (.int .i64 (sz : Int)) 86) (hqR : q R = false) (hqg : q wr.heap.size = true) (hk : fits64 k) (hsz : sz ≤ 1000000000) :
    Calls Tryz.prog 65 #[.pointer (some ⟨R, 0, none⟩), .int .i64 k, .slice (some ⟨wr.heap.size, 0, none⟩) 1 1] (wr.alloc (.cells cs.toArray 30)) (MkPost R q (wr.alloc (.cells cs.toArray 30)) (.mk k 0 0 [x], sz + 1)) :=
  part_walk (hv.alloc _) hqR (row_made (p := q) (g := wr.heap.size) [(x, cs)] (by
    intro z hz
    rw [List.mem_singleton] at hz; subst hz
    exact hx.mono (by simp) fun b h1 h2 => ⟨h1, Below.heap_alloc wr _ b h2⟩) (by simp [maxLen]) hqg (by
    rw [show ([(x, cs)] : List (Cr × List Value)).flatMap (·.2) = cs from by simp]; exact World.alloc_heap_new wr _) rfl) hk hsz
theorem two_part {q : Nat → Bool} {R sz : Nat} {wr : World} {x y : Cr} {cs ds : List Value} {k : Int} (hx : CrIn q wr x cs) (hy : CrIn q wr y ds) (hv : Var wr R (.int .i64 (sz : Int)) 86) (hqR : q R = false) (hqg : q wr.heap.size = true) (hk : fits64 k) (hsz : sz ≤ 1000000000) :
    Calls Tryz.prog 65 #[.pointer (some ⟨R, 0, none⟩), .int .i64 k, .slice (some ⟨wr.heap.size, 0, none⟩) 2 2] (wr.alloc (.cells (cs ++ ds).toArray 30)) (MkPost R q (wr.alloc (.cells (cs ++ ds).toArray 30)) (.mk k 0 0 [x, y], sz + 1)) :=
  part_walk (hv.alloc _) hqR (row_made (p := q) (g := wr.heap.size) [(x, cs), (y, ds)] (by
    intro z hz
    rcases List.mem_cons.1 hz with rfl | hz
    · exact hx.mono (by simp) fun b h1 h2 => ⟨h1, Below.heap_alloc wr _ b h2⟩
    · rw [List.mem_singleton] at hz; subst hz
      exact hy.mono (by simp) fun b h1 h2 => ⟨h1, Below.heap_alloc wr _ b h2⟩) (by simp [maxLen]) hqg (by
    rw [show ([(x, cs), (y, ds)] : List (Cr × List Value)).flatMap (·.2) = cs ++ ds from by simp]; exact World.alloc_heap_new wr _) rfl) hk hsz
theorem leaf_part {q : Nat → Bool} {R sz : Nat} {w : World} {k : Int} (hv : Var w R (.int .i64 (sz : Int)) 86) (hqR : q R = false) (hk : fits64 k) (hsz : sz ≤ 1000000000) :
    Calls Tryz.prog 65 #[.pointer (some ⟨R, 0, none⟩), .int .i64 k, .slice none 0 0] w (MkPost R q w (leafC k, sz + 1)) := part_walk hv hqR (.inl ⟨rfl, rfl⟩) hk hsz
theorem post_tail {q : Nat → Bool} {R c : Nat} {w wn w5 : World} {x : Cr} {sz : Nat} {ds : List Value} (hin : CrIn q wn x ds) (hq : ∀ b, q b = true → fromB w.heap.size b = true ∧ b ≠ c) (hv : Var wn R (.int .i64 (sz : Int)) 86) (hb : But R w wn)
    (hR : R < w.heap.size) (hc : w.heap.size ≤ c) (ho : Only c wn w5) : MkPost R (fromB w.heap.size) w (x, sz) (.returned (.agg ds.toArray)) w5 :=
  ⟨ds, rfl, hin.onto ho fun k h1 _ => hq k h1, var_only ho hv (by omega), hb.only_new ho hc⟩
theorem MkPost.wide {R : Nat} {p q : Nat → Bool} {w W w' : World} {r : Cr × Nat} {e : Ending} (h : MkPost R p W r e w') (hb : But R w W) (hq : ∀ b, p b = true → q b = true) : MkPost R q w r e w' := by
  obtain ⟨cs, h1, h2, h3, h4⟩ := h
  exact ⟨cs, h1, h2.mono (Nat.le_refl _) fun b hb _ => ⟨hq b hb, rfl⟩, h3, hb.trans h4⟩
/-- a core in its own box at c, on its way to the result's box -/
def OptSt (w : World) (R c : Nat) (x : Cr) (cs : List Value) (sz : Nat) (W : World) : Prop :=
  CrIn (fromC (w.heap.size + 2) c) W x cs ∧ Var W R (.int .i64 (sz : Int)) 86 ∧ But R w W ∧ CoreIn W (w.heap.size + 1) #[.int .i64 0, .int .u64 0, .int .u64 0, .int .u64 0, .int .u64 0, .int .i64 0, .slice none 0 0] ∧ CoreIn W c cs.toArray ∧ w.heap.size + 2 ≤ c
theorem OptSt.later {w W W' : World} {R c sz : Nat} {x : Cr} {cs : List Value} (h : OptSt w R c x cs sz W) (hb : Below W.heap.size W W') : OptSt w R c x cs sz W' :=
  ⟨h.1.later hb (fun _ h1 _ => h1), h.2.1.below hb h.2.1.lt, h.2.2.1.trans (But.of_below hb), core_later hb h.2.2.2.1, core_later hb h.2.2.2.2.1, h.2.2.2.2.2⟩
theorem OptSt.but {w W W' : World} {R c sz sz' : Nat} {x : Cr} {cs : List Value} (h : OptSt w R c x cs sz W) (hR : R < w.heap.size) (hb : But R W W') (hv : Var W' R (.int .i64 (sz' : Int)) 86) : OptSt w R c x cs sz' W' := by
  have hc := h.2.2.2.2.2
  exact ⟨h.1.step hb (fun k h1 _ => ⟨h1, by have := fromC_iff.1 h1; omega⟩), hv, h.2.2.1.trans hb, core_but hb h.2.2.2.1 (by omega), core_but hb h.2.2.2.2.1 (by omega), hc⟩
theorem OptSt.put {w W W' : World} {R c sz : Nat} {x y : Cr} {cs ds : List Value} (h : OptSt w R c x cs sz W) (hR : R < w.heap.size) (hy : CrIn (fromC (w.heap.size + 2) c) W y ds) (hn : CoreIn W' c ds.toArray) (ho : Only c W W') : OptSt w R c y ds sz W' := by
  have hc := h.2.2.2.2.2
  exact ⟨hy.onto ho (fun k h1 _ => ⟨h1, (fromC_iff.1 h1).2⟩), var_only ho h.2.1 (by omega), h.2.2.1.only_new ho (by omega), core_only ho h.2.2.2.1 (by omega), hn, hc⟩
theorem OptSt.first {w W1 w2 w3 : World} {R sz : Nat} {x : Cr} {cs : List Value} {o : Obj} (hal : Below w.heap.size w W1) (hs1 : W1.heap.size = w.heap.size + 2) (hres : CoreIn W1 (w.heap.size + 1) #[.int .i64 0, .int .u64 0, .int .u64 0, .int .u64 0, .int .u64 0, .int .i64 0, .slice none 0 0]) (hR : R < w.heap.size)
    (hin : CrIn (fromB W1.heap.size) w2 x cs) (hv : Var w2 R (.int .i64 (sz : Int)) 86) (hb : But R W1 w2) (hn : CoreIn w3 w2.heap.size cs.toArray) (ho : Only w2.heap.size (w2.alloc o) w3) : OptSt w R w2.heap.size x cs sz w3 := by
  have h2 : Below w2.heap.size w2 (w2.alloc o) := (Below.refl _ _).alloc (Nat.le_refl _) _
  have hs := hb.size
  refine ⟨hin.mono (by rw [ho.size]; exact h2.size) fun k h1 hk => ⟨fromC_iff.2 ⟨by have := fromB_ge h1; omega, by omega⟩, (ho.block k (by omega)).trans (h2.block k hk)⟩, var_only ho (hv.below h2 hv.lt) (by have := hv.lt; omega), ?_, ?_, hn, by omega⟩
  · exact (((But.of_below hal).trans hb).trans (But.of_below h2)).only_new ho (by omega)
  · exact core_only ho (core_later h2 (core_but hb hres (by omega))) (by omega)
theorem OptSt.fin {w W W5 : World} {R c sz : Nat} {x y : Cr} {cs ds : List Value} (h : OptSt w R c x cs sz W) (hR : R < w.heap.size) (hy : CrIn (fromC (w.heap.size + 2) c) W y ds) (ho : Only (w.heap.size + 1) W W5) : MkPost R (fromB w.heap.size) w (y, sz) (.returned (.agg ds.toArray)) W5 :=
  post_tail hy (fun b hb => ⟨fromB_yes (by have := fromC_iff.1 hb; omega), by have := fromC_iff.1 hb; omega⟩) h.2.1 h.2.2.1 hR (by omega) ho
theorem OptSt.off {w W : World} {R c sz : Nat} {x : Cr} {cs : List Value} (h : OptSt w R c x cs sz W) : fromC (w.heap.size + 2) c W.heap.size = true := by
  have h1 := lt_of_block h.2.2.2.2.1
  have h2 := h.2.2.2.2.2
  exact fromC_iff.2 ⟨by omega, by omega⟩
/-- what a part's call ends in, beside such a core -/
def OptPart (w : World) (R c : Nat) (x : Cr) (cs : List Value) (sz : Nat) (y : Cr) (e : Ending) (W : World) : Prop := ∃ ds : List Value, e = .returned (.agg ds.toArray) ∧ CrIn (fromC (w.heap.size + 2) c) W y ds ∧ OptSt w R c x cs sz W
theorem OptSt.post {w W W0 : World} {R c sz sz' : Nat} {x y : Cr} {cs : List Value} {e : Ending} (h : OptSt w R c x cs sz W0) (hR : R < w.heap.size) (hp : MkPost R (fromC (w.heap.size + 2) c) W0 (y, sz') e W) : OptPart w R c x cs sz' y e W := by
  obtain ⟨ds, h1, h2, h3, h4⟩ := hp
  exact ⟨ds, h1, h2, h.but hR h4 h3⟩
theorem OptSt.leaf {w W : World} {R c sz : Nat} {x : Cr} {cs : List Value} {k : Int} (h : OptSt w R c x cs sz W) (hR : R < w.heap.size) (hk : fits64 k) (hsz : sz ≤ 1000000000) :
    Calls Tryz.prog 65 #[.pointer (some ⟨R, 0, none⟩), .int .i64 k, .slice none 0 0] W (OptPart w R c x cs (sz + 1) (leafC k)) :=
  (leaf_part h.2.1 (fromC_no (by omega)) hk hsz).mono fun _ _ hp => h.post hR hp
theorem OptSt.one {w W : World} {R c sz : Nat} {x : Cr} {cs : List Value} {k : Int} (h : OptSt w R c x cs sz W) (hR : R < w.heap.size) (hk : fits64 k) (hsz : sz ≤ 1000000000) :
    Calls Tryz.prog 65 #[.pointer (some ⟨R, 0, none⟩), .int .i64 k, .slice (some ⟨W.heap.size, 0, none⟩) 1 1] (W.alloc (.cells cs.toArray 30)) (OptPart w R c x cs (sz + 1) (.mk k 0 0 [x])) :=
  (one_part h.1 h.2.1 (fromC_no (by omega)) h.off hk hsz).mono fun _ _ hp => (h.later ((Below.refl _ _).alloc (Nat.le_refl _) _)).post hR hp
theorem OptSt.two {w W : World} {R c sz : Nat} {x y : Cr} {cs ds : List Value} {k : Int} (h : OptSt w R c x cs sz W) (hR : R < w.heap.size) (hy : CrIn (fromC (w.heap.size + 2) c) W y ds) (hk : fits64 k) (hsz : sz ≤ 1000000000) :
    Calls Tryz.prog 65 #[.pointer (some ⟨R, 0, none⟩), .int .i64 k, .slice (some ⟨W.heap.size, 0, none⟩) 2 2] (W.alloc (.cells (cs ++ ds).toArray 30)) (OptPart w R c x cs (sz + 1) (.mk k 0 0 [x, y])) :=
  (two_part h.1 hy h.2.1 (fromC_no (by omega)) h.off hk hsz).mono fun _ _ hp => (h.later ((Below.refl _ _).alloc (Nat.le_refl _) _)).post hR hp
/-- the world behind a box and an empty core -/
theorem boxed_core (w : World) (cs : Array Value) (t : TypeId) {W1 : World} (h : W1 = (w.alloc (.cells cs t)).alloc (.cells #[.int .i64 0, .int .u64 0, .int .u64 0, .int .u64 0, .int .u64 0, .int .i64 0, .slice none 0 0] 30)) :
    Below w.heap.size w W1 ∧ W1.heap.size = w.heap.size + 2 ∧ W1.heap[w.heap.size]? = some (.cells cs t) ∧ CoreIn W1 (w.heap.size + 1) #[.int .i64 0, .int .u64 0, .int .u64 0, .int .u64 0, .int .u64 0, .int .i64 0, .slice none 0 0] := by
  subst h
  refine ⟨((Below.refl _ _).alloc (Nat.le_refl _) _).alloc (by simp) _, by simp, (Below.heap_alloc _ _ _ (by simp)).trans (World.alloc_heap_new w _), ?_⟩
  have h := World.alloc_heap_new (w.alloc (.cells cs t)) (.cells #[.int .i64 0, .int .u64 0, .int .u64 0, .int .u64 0, .int .u64 0, .int .i64 0, .slice none 0 0] 30)
  rw [World.size_alloc] at h
  exact h
set_option maxHeartbeats 4000000 in
theorem copy_walk {W0 : World} {R : Nat} {f : Mk} {k : Int} {s : BitVec 256} {lo hi n : Int} {a : Option Addr} {len cap : Nat}
    (hN : NodeOk W0 R [.int .i64 k, .int .u64 (word s 0), .int .u64 (word s 1), .int .u64 (word s 2), .int .u64 (word s 3), .int .i64 lo, .int .i64 hi, .int .i64 n, .slice a len cap] f) (first : Bool) (w : World) (sz : Nat)
    (hb : Below W0.heap.size W0 w) (hv : Var w R (.int .i64 (sz : Int)) 86) (hsz : sz ≤ 100000000) (hf : (f sz).2 ≤ 100000000) :
    Calls Tryz.prog 96 #[.pointer (some ⟨R, 0, none⟩), .agg #[.int .i64 k, .int .u64 (word s 0), .int .u64 (word s 1), .int .u64 (word s 2), .int .u64 (word s 3), .int .i64 lo, .int .i64 hi, .int .i64 n, .slice a len cap], .bool first] w
      (MkPost R (fromB w.heap.size) w (againM f first sz)) := by
  have hlt := hv.lt
  obtain ⟨W1, hW1⟩ : ∃ W1, W1 = (w.alloc (.cells #[.int .i64 k, .int .u64 (word s 0), .int .u64 (word s 1), .int .u64 (word s 2), .int .u64 (word s 3), .int .i64 lo, .int .i64 hi, .int .i64 n, .slice a len cap] 39)).alloc (.cells #[.int .i64 0, .int .u64 0, .int .u64 0, .int .u64 0, .int .u64 0, .int .i64 0, .slice none 0 0] 30) := ⟨_, rfl⟩
  obtain ⟨hal, hs1, hbx, hres⟩ := boxed_core w _ _ hW1
  have hc := hN W1 sz (hb.trans (hal.mono hb.size)) (hv.below hal hlt) hsz
  have h9 := node9_in (cs := [.int .i64 k, .int .u64 (word s 0), .int .u64 (word s 1), .int .u64 (word s 2), .int .u64 (word s 3), .int .i64 lo, .int .i64 hi, .int .i64 n, .slice a len cap]) hbx rfl
  have H9 := Lib.hid h9
  have Hc := Lib.hid hc
  have Hlt := Lib.hid hlt
  have Hbx := Lib.hid hbx
  have H1 := Lib.hid (And.intro hal (And.intro hs1 hres))
  clear hal hs1 hbx hres hc h9 hN hb hv hlt
  go_enter Tryz.func96, Tryz.ntmps96
  go_upto_region 1 with fail
  rw [← hW1]
  clear hW1
  go_wp2_with (first | (refine wpList_load_node rfl _ rfl w.heap.size 0 _ rfl H9.out ?_))
  refine Hc.out.mono ?_
  rintro e w2 ⟨cs, rfl, hin2, hv2, hb2⟩
  obtain ⟨kq, sq, nq, aq, lenq, capq, rfl⟩ := hin2.lit
  have Hz2 := Lib.hid (show CoreIn (w2.alloc (.cells #[.int .i64 0, .int .u64 0, .int .u64 0, .int .u64 0, .int .u64 0, .int .i64 0, .slice none 0 0] 30)) w2.heap.size #[.int .i64 0, .int .u64 0, .int .u64 0, .int .u64 0, .int .u64 0, .int .i64 0, .slice none 0 0] from World.alloc_heap_new w2 _)
  have H2 := Lib.hid (And.intro hin2 (And.intro hv2 hb2))
  clear hin2 hv2 hb2 Hc
  cases first
  · go_wp2_with (first | (refine wpList_store_core rfl _ _ rfl w2.heap.size _ #[.int .i64 kq, .int .u64 (word sq 0), .int .u64 (word sq 1), .int .u64 (word sq 2), .int .u64 (word sq 3), .int .i64 nq, .slice aq lenq capq] rfl rfl Hz2.out rfl rfl (by simp [Value.oneCell']) ?_; intro w3 hs3 ho3; have Hst := Lib.hid (OptSt.first (cs := [.int .i64 kq, .int .u64 (word sq 0), .int .u64 (word sq 1), .int .u64 (word sq 2), .int .u64 (word sq 3), .int .i64 nq, .slice aq lenq capq]) H1.out.1 H1.out.2.1 H1.out.2.2 Hlt.out H2.out.1 H2.out.2.1 H2.out.2.2 hs3 ho3); have Ho3 := Lib.hid ho3; clear hs3 ho3; have H7 := Lib.hid (core7_in (cs := [.int .i64 kq, .int .u64 (word sq 0), .int .u64 (word sq 1), .int .u64 (word sq 2), .int .u64 (word sq 3), .int .i64 nq, .slice aq lenq capq]) Hst.out.2.2.2.2.1 rfl)) | (refine wpList_load_core rfl _ rfl w2.heap.size 0 _ rfl H7.out ?_) | (go_at_call 65; refine (Hst.out.one (k := 7) Hlt.out rfl (by omega)).mono ?_; rintro e wn ⟨ds, rfl, hy, hst⟩; obtain ⟨kd, sd, nd, ad, lend, capd, rfl⟩ := hy.lit; have Hn := Lib.hid (And.intro hy hst); clear hy hst) | (refine wpList_store_core rfl _ _ rfl (w.heap.size + 1) _ #[.int .i64 kd, .int .u64 (word sd 0), .int .u64 (word sd 1), .int .u64 (word sd 2), .int .u64 (word sd 3), .int .i64 nd, .slice ad lend capd] rfl rfl Hn.out.2.2.2.2.1 rfl rfl (by simp [Value.oneCell']) ?_; intro w5 hs5 ho5; have H5 := Lib.hid (And.intro hs5 ho5); clear hs5 ho5))
    refine bodyPost_ret (v := .agg #[.int .i64 kd, .int .u64 (word sd 0), .int .u64 (word sd 1), .int .u64 (word sd 2), .int .u64 (word sd 3), .int .i64 nd, .slice ad lend capd]) (results_core rfl _ _ (w.heap.size + 1) _ rfl H5.out.1 rfl) rfl ?_
    exact Hn.out.2.fin Hlt.out Hn.out.1 H5.out.2
  · go_wp2_with (first | (refine wpList_store_core rfl _ _ rfl w2.heap.size _ #[.int .i64 kq, .int .u64 (word sq 0), .int .u64 (word sq 1), .int .u64 (word sq 2), .int .u64 (word sq 3), .int .i64 nq, .slice aq lenq capq] rfl rfl Hz2.out rfl rfl (by simp [Value.oneCell']) ?_; intro w3 hs3 ho3; have Hst := Lib.hid (OptSt.first (cs := [.int .i64 kq, .int .u64 (word sq 0), .int .u64 (word sq 1), .int .u64 (word sq 2), .int .u64 (word sq 3), .int .i64 nq, .slice aq lenq capq]) H1.out.1 H1.out.2.1 H1.out.2.2 Hlt.out H2.out.1 H2.out.2.1 H2.out.2.2 hs3 ho3); have Ho3 := Lib.hid ho3; clear hs3 ho3; have H7 := Lib.hid (core7_in (cs := [.int .i64 kq, .int .u64 (word sq 0), .int .u64 (word sq 1), .int .u64 (word sq 2), .int .u64 (word sq 3), .int .i64 nq, .slice aq lenq capq]) Hst.out.2.2.2.2.1 rfl)) | (refine wpList_load_core rfl _ rfl w2.heap.size 0 _ rfl H7.out ?_) | (refine wpList_store_core rfl _ _ rfl (w.heap.size + 1) _ #[.int .i64 kq, .int .u64 (word sq 0), .int .u64 (word sq 1), .int .u64 (word sq 2), .int .u64 (word sq 3), .int .i64 nq, .slice aq lenq capq] rfl rfl Hst.out.2.2.2.1 rfl rfl (by simp [Value.oneCell']) ?_; intro w5 hs5 ho5; have H5 := Lib.hid (And.intro hs5 ho5); clear hs5 ho5))
    refine bodyPost_ret (v := .agg #[.int .i64 kq, .int .u64 (word sq 0), .int .u64 (word sq 1), .int .u64 (word sq 2), .int .u64 (word sq 3), .int .i64 nq, .slice aq lenq capq]) (results_core rfl _ _ (w.heap.size + 1) _ rfl H5.out.1 rfl) rfl ?_
    exact Hst.out.fin Hlt.out Hst.out.1 H5.out.2
set_option maxHeartbeats 8000000 in
theorem optional_walk {W0 : World} {R : Nat} {f : Mk} {k : Int} {s : BitVec 256} {lo hi n : Int} {a : Option Addr} {len cap : Nat}
    (hN : NodeOk W0 R [.int .i64 k, .int .u64 (word s 0), .int .u64 (word s 1), .int .u64 (word s 2), .int .u64 (word s 3), .int .i64 lo, .int .i64 hi, .int .i64 n, .slice a len cap] f) (hR : W0.heap.size ≤ R) {D : Nat} (hs : Small D f) : ∀ (t : Nat) (first : Bool) (w : World) (sz : Nat) (z : Int), Below W0.heap.size W0 w → Var w R (.int .i64 (sz : Int)) 86 → z = (t : Int) + 1 → max sz (2000 + D) + 4 * (t + 1) ≤ 50000000 → t ≤ 100000 →
    Calls Tryz.prog 97 #[.pointer (some ⟨R, 0, none⟩), .agg #[.int .i64 k, .int .u64 (word s 0), .int .u64 (word s 1), .int .u64 (word s 2), .int .u64 (word s 3), .int .i64 lo, .int .i64 hi, .int .i64 n, .slice a len cap], .int .i64 z, .bool first] w
      (MkPost R (fromB w.heap.size) w (optM f t first sz))
  | 0, first, w, sz, z, hb, hv, hz, hm, ht => by
    have hag := again_small hs first sz
    have hszl : sz ≤ 100000000 := by omega
    have hfl : (f sz).2 ≤ 100000000 := by have := hs sz; omega
    have hlt := hv.lt
    obtain ⟨W1, hW1⟩ : ∃ W1, W1 = (w.alloc (.cells #[.int .i64 k, .int .u64 (word s 0), .int .u64 (word s 1), .int .u64 (word s 2), .int .u64 (word s 3), .int .i64 lo, .int .i64 hi, .int .i64 n, .slice a len cap] 39)).alloc (.cells #[.int .i64 0, .int .u64 0, .int .u64 0, .int .u64 0, .int .u64 0, .int .i64 0, .slice none 0 0] 30) := ⟨_, rfl⟩
    obtain ⟨hal, hs1, hbx, hres⟩ := boxed_core w _ _ hW1
    have hc := copy_walk hN first W1 sz (hb.trans (hal.mono hb.size)) (hv.below hal hlt) hszl hfl
    have h9 := node9_in (cs := [.int .i64 k, .int .u64 (word s 0), .int .u64 (word s 1), .int .u64 (word s 2), .int .u64 (word s 3), .int .i64 lo, .int .i64 hi, .int .i64 n, .slice a len cap]) hbx rfl
    have H9 := Lib.hid h9
    have Hc := Lib.hid hc
    have Hlt := Lib.hid hlt
    have Hbx := Lib.hid hbx
    have H1 := Lib.hid (And.intro hal (And.intro hs1 hres))
    have hd : decide (z > 1) = false := by simp; omega
    have hd2 : decide ((1 : Int) < z) = false := by simp; omega
    clear hal hs1 hbx hres hc h9 hb hv hlt hz ht hs
    go_enter Tryz.func97, Tryz.ntmps97
    go_upto_region 1 with fail
    rw [← hW1]
    clear hW1
    go_wp2_with (first | (refine wpList_load_node rfl _ rfl w.heap.size 0 _ rfl H9.out ?_))
    refine Hc.out.mono ?_
    rintro e w2 ⟨cs, rfl, hin2, hv2, hb2⟩
    obtain ⟨kq, sq, nq, aq, lenq, capq, rfl⟩ := hin2.lit
    have Hz2 := Lib.hid (show CoreIn (w2.alloc (.cells #[.int .i64 0, .int .u64 0, .int .u64 0, .int .u64 0, .int .u64 0, .int .i64 0, .slice none 0 0] 30)) w2.heap.size #[.int .i64 0, .int .u64 0, .int .u64 0, .int .u64 0, .int .u64 0, .int .i64 0, .slice none 0 0] from World.alloc_heap_new w2 _)
    have H2 := Lib.hid (And.intro hin2 (And.intro hv2 hb2))
    clear hin2 hv2 hb2 Hc
    go_wp2_with (first | (refine wpList_store_core rfl _ _ rfl w2.heap.size _ #[.int .i64 kq, .int .u64 (word sq 0), .int .u64 (word sq 1), .int .u64 (word sq 2), .int .u64 (word sq 3), .int .i64 nq, .slice aq lenq capq] rfl rfl Hz2.out rfl rfl (by simp [Value.oneCell']) ?_; intro w3 hs3 ho3; have Hst := Lib.hid (OptSt.first (cs := [.int .i64 kq, .int .u64 (word sq 0), .int .u64 (word sq 1), .int .u64 (word sq 2), .int .u64 (word sq 3), .int .i64 nq, .slice aq lenq capq]) H1.out.1 H1.out.2.1 H1.out.2.2 Hlt.out H2.out.1 H2.out.2.1 H2.out.2.2 hs3 ho3); have Ho3 := Lib.hid ho3; clear hs3 ho3; have H7 := Lib.hid (core7_in (cs := [.int .i64 kq, .int .u64 (word sq 0), .int .u64 (word sq 1), .int .u64 (word sq 2), .int .u64 (word sq 3), .int .i64 nq, .slice aq lenq capq]) Hst.out.2.2.2.2.1 rfl)))
    obtain ⟨wd, hwd⟩ : ∃ wd, wd = w3.drew := ⟨_, rfl⟩
    have hst4 := Hst.out.later (drew_below _)
    rw [← hwd] at hst4
    have Hs4 := Lib.hid hst4
    have H74 := Lib.hid (core7_in (cs := [.int .i64 kq, .int .u64 (word sq 0), .int .u64 (word sq 1), .int .u64 (word sq 2), .int .u64 (word sq 3), .int .i64 nq, .slice aq lenq capq]) hst4.2.2.2.2.1 rfl)
    have hszl : (againM f first sz).2 ≤ 100000000 := by simp only [againM, optM] at *; omega
    have Hl4 := Lib.hid (hst4.leaf (k := 1) Hlt.out rfl (by omega))
    clear hst4
    go_upto_region 4 with fail
    refine wp_region_free (.plain 0 (.plain 2 (.fork 1 (.sole 3 (.sole 4 (.sole 5 (.sole 6 .done)))) 3 (.sole 1 (.sole 4 (.sole 5 (.sole 6 .done))))))) (by kernel_rfl) (by kernel_rfl) (fun c a d v w h => by cases d <;> exact h) ?_
    rw [← hwd]
    clear hwd
    iterate 2
      refine' free_plain ?_ ?_ (fun K hK => ?_)
      rotate_left 1
      · simp only [List.getElem?_toArray, List.getElem?_cons_zero, List.getElem?_cons_succ]; exact rfl
      · exact rfl
      go_big_quiet_op
      refine hK _ ?_
      clear hK K
      try simp only [Act.put, List.setIfInBounds_toArray, List.set_cons_zero, List.set_cons_succ]
    refine free_fork ?_ ?_
    · refine' free_step ?_ ?_ (fun K hK => ?_)
      rotate_left 1
      · simp only [List.getElem?_toArray, List.getElem?_cons_zero, List.getElem?_cons_succ]; exact rfl
      · exact rfl
      refine wp_load_core _ rfl w2.heap.size 0 _ rfl (by first | exact H74.out | exact H74n.out) ?_
      refine hK _ _ ?_
      clear hK K
      try simp only [Act.put, List.setIfInBounds_toArray, List.set_cons_zero, List.set_cons_succ]
      refine' free_sole ?_ ?_ (fun K hK => ?_)
      rotate_left 1
      · simp only [List.getElem?_toArray, List.getElem?_cons_zero, List.getElem?_cons_succ]; exact rfl
      · exact rfl
      go_simp
      refine (Hl4.out).mono ?_
      rintro e wl ⟨fs, rfl, hy, hst⟩
      refine hK _ _ ?_
      obtain ⟨kf, sf, nf, af, lenf, capf, rfl⟩ := hy.lit
      have Hfs := Lib.hid hy
      have Hsl := Lib.hid hst
      have H74n := Lib.hid (core7_in (cs := [.int .i64 kq, .int .u64 (word sq 0), .int .u64 (word sq 1), .int .u64 (word sq 2), .int .u64 (word sq 3), .int .i64 nq, .slice aq lenq capq]) hst.2.2.2.2.1 rfl)
      have Hp4 := Lib.hid (hst.two (k := 4) Hlt.out hy rfl (by omega))
      clear hy hst
      clear hK K
      try simp only [Act.put, List.setIfInBounds_toArray, List.set_cons_zero, List.set_cons_succ]
      refine' free_sole ?_ ?_ (fun K hK => ?_)
      rotate_left 1
      · simp only [List.getElem?_toArray, List.getElem?_cons_zero, List.getElem?_cons_succ]; exact rfl
      · exact rfl
      unfold Oper.wp execOp
      go_simp
      refine hK _ _ ?_
      clear hK K
      refine' free_sole ?_ ?_ (fun K hK => ?_)
      rotate_left 1
      · simp only [List.getElem?_toArray, List.getElem?_cons_zero, List.getElem?_cons_succ]; exact rfl
      · exact rfl
      go_simp
      refine (Hp4.out).mono ?_
      rintro e wm ⟨gs, rfl, hy, hst⟩
      refine hK _ _ ?_
      obtain ⟨kg, sg, ng, ag, leng, capg, rfl⟩ := hy.lit
      have Hg := Lib.hid (And.intro hy hst)
      clear hy hst
      clear hK K
      try simp only [Act.put, List.setIfInBounds_toArray, List.set_cons_zero, List.set_cons_succ]
      refine' free_sole ?_ ?_ (fun K hK => ?_)
      rotate_left 1
      · simp only [List.getElem?_toArray, List.getElem?_cons_zero, List.getElem?_cons_succ]; exact rfl
      · exact rfl
      refine wp_store_core _ _ rfl (w.heap.size + 1) _ #[.int .i64 kg, .int .u64 (word sg 0), .int .u64 (word sg 1), .int .u64 (word sg 2), .int .u64 (word sg 3), .int .i64 ng, .slice ag leng capg] rfl rfl Hg.out.2.2.2.2.1 rfl rfl (by simp [Value.oneCell']) ?_
      intro w5 hs5 ho5
      refine hK _ _ ?_
      have H5 := Lib.hid (And.intro hs5 ho5)
      clear hs5 ho5
      clear hK K
      try simp only [Act.put]
      refine free_done ?_
      go_wp2_with fail
      refine bodyPost_ret (v := .agg #[.int .i64 kg, .int .u64 (word sg 0), .int .u64 (word sg 1), .int .u64 (word sg 2), .int .u64 (word sg 3), .int .i64 ng, .slice ag leng capg]) (results_core rfl _ _ (w.heap.size + 1) _ rfl H5.out.1 rfl) rfl ?_
      exact Hg.out.2.fin Hlt.out Hg.out.1 H5.out.2
    · refine' free_step ?_ ?_ (fun K hK => ?_)
      rotate_left 1
      · simp only [List.getElem?_toArray, List.getElem?_cons_zero, List.getElem?_cons_succ]; exact rfl
      · exact rfl
      go_simp
      refine (Hl4.out).mono ?_
      rintro e wl ⟨fs, rfl, hy, hst⟩
      refine hK _ _ ?_
      obtain ⟨kf, sf, nf, af, lenf, capf, rfl⟩ := hy.lit
      have Hfs := Lib.hid hy
      have Hsl := Lib.hid hst
      have H74n := Lib.hid (core7_in (cs := [.int .i64 kq, .int .u64 (word sq 0), .int .u64 (word sq 1), .int .u64 (word sq 2), .int .u64 (word sq 3), .int .i64 nq, .slice aq lenq capq]) hst.2.2.2.2.1 rfl)
      have Hp4 := Lib.hid (hst.two (k := 4) Hlt.out hy rfl (by omega))
      clear hy hst
      clear hK K
      try simp only [Act.put, List.setIfInBounds_toArray, List.set_cons_zero, List.set_cons_succ]
      refine' free_sole ?_ ?_ (fun K hK => ?_)
      rotate_left 1
      · simp only [List.getElem?_toArray, List.getElem?_cons_zero, List.getElem?_cons_succ]; exact rfl
      · exact rfl
      refine wp_load_core _ rfl w2.heap.size 0 _ rfl (by first | exact H74.out | exact H74n.out) ?_
      refine hK _ _ ?_
      clear hK K
      try simp only [Act.put, List.setIfInBounds_toArray, List.set_cons_zero, List.set_cons_succ]
      refine' free_sole ?_ ?_ (fun K hK => ?_)
      rotate_left 1
      · simp only [List.getElem?_toArray, List.getElem?_cons_zero, List.getElem?_cons_succ]; exact rfl
      · exact rfl
      unfold Oper.wp execOp
      go_simp
      refine hK _ _ ?_
      clear hK K
      refine' free_sole ?_ ?_ (fun K hK => ?_)
      rotate_left 1
      · simp only [List.getElem?_toArray, List.getElem?_cons_zero, List.getElem?_cons_succ]; exact rfl
      · exact rfl
      go_simp
      refine (Hp4.out).mono ?_
      rintro e wm ⟨gs, rfl, hy, hst⟩
      refine hK _ _ ?_
      obtain ⟨kg, sg, ng, ag, leng, capg, rfl⟩ := hy.lit
      have Hg := Lib.hid (And.intro hy hst)
      clear hy hst
      clear hK K
      try simp only [Act.put, List.setIfInBounds_toArray, List.set_cons_zero, List.set_cons_succ]
      refine' free_sole ?_ ?_ (fun K hK => ?_)
      rotate_left 1
      · simp only [List.getElem?_toArray, List.getElem?_cons_zero, List.getElem?_cons_succ]; exact rfl
      · exact rfl
      refine wp_store_core _ _ rfl (w.heap.size + 1) _ #[.int .i64 kg, .int .u64 (word sg 0), .int .u64 (word sg 1), .int .u64 (word sg 2), .int .u64 (word sg 3), .int .i64 ng, .slice ag leng capg] rfl rfl Hg.out.2.2.2.2.1 rfl rfl (by simp [Value.oneCell']) ?_
      intro w5 hs5 ho5
      refine hK _ _ ?_
      have H5 := Lib.hid (And.intro hs5 ho5)
      clear hs5 ho5
      clear hK K
      try simp only [Act.put]
      refine free_done ?_
      go_wp2_with fail
      refine bodyPost_ret (v := .agg #[.int .i64 kg, .int .u64 (word sg 0), .int .u64 (word sg 1), .int .u64 (word sg 2), .int .u64 (word sg 3), .int .i64 ng, .slice ag leng capg]) (results_core rfl _ _ (w.heap.size + 1) _ rfl H5.out.1 rfl) rfl ?_
      exact Hg.out.2.fin Hlt.out Hg.out.1 H5.out.2
  | t + 1, first, w, sz, z, hb, hv, hz, hm, ht => by
    have hag := again_small hs first sz
    have hszl : sz ≤ 100000000 := by omega
    have hfl : (f sz).2 ≤ 100000000 := by have := hs sz; omega
    have hlt := hv.lt
    obtain ⟨W1, hW1⟩ : ∃ W1, W1 = (w.alloc (.cells #[.int .i64 k, .int .u64 (word s 0), .int .u64 (word s 1), .int .u64 (word s 2), .int .u64 (word s 3), .int .i64 lo, .int .i64 hi, .int .i64 n, .slice a len cap] 39)).alloc (.cells #[.int .i64 0, .int .u64 0, .int .u64 0, .int .u64 0, .int .u64 0, .int .i64 0, .slice none 0 0] 30) := ⟨_, rfl⟩
    obtain ⟨hal, hs1, hbx, hres⟩ := boxed_core w _ _ hW1
    have hc := copy_walk hN first W1 sz (hb.trans (hal.mono hb.size)) (hv.below hal hlt) hszl hfl
    have h9 := node9_in (cs := [.int .i64 k, .int .u64 (word s 0), .int .u64 (word s 1), .int .u64 (word s 2), .int .u64 (word s 3), .int .i64 lo, .int .i64 hi, .int .i64 n, .slice a len cap]) hbx rfl
    have H9 := Lib.hid h9
    have Hc := Lib.hid hc
    have Hlt := Lib.hid hlt
    have Hbx := Lib.hid hbx
    have H1 := Lib.hid (And.intro hal (And.intro hs1 hres))
    have hd : decide (z > 1) = true := by simp; omega
    have hd2 : decide ((1 : Int) < z) = true := by simp; omega
    have hzb : z ≤ 200000 := by omega
    have hz0 : 0 ≤ z - 1 := by omega
    have ih := optional_walk hN hR hs t false
    have Hih := Lib.hid ih
    have Hz := Lib.hid hz
    have HbW := Lib.hid hb
    have Hm := Lib.hid hm
    have Ht := Lib.hid ht
    have Hag := Lib.hid hag
    have hop := opt_small hs t false (againM f first sz).2
    clear ih hal hs1 hbx hres hc h9 hb hv hlt hz ht hs
    go_enter Tryz.func97, Tryz.ntmps97
    go_upto_region 1 with fail
    rw [← hW1]
    clear hW1
    go_wp2_with (first | (refine wpList_load_node rfl _ rfl w.heap.size 0 _ rfl H9.out ?_))
    refine Hc.out.mono ?_
    rintro e w2 ⟨cs, rfl, hin2, hv2, hb2⟩
    obtain ⟨kq, sq, nq, aq, lenq, capq, rfl⟩ := hin2.lit
    have Hz2 := Lib.hid (show CoreIn (w2.alloc (.cells #[.int .i64 0, .int .u64 0, .int .u64 0, .int .u64 0, .int .u64 0, .int .i64 0, .slice none 0 0] 30)) w2.heap.size #[.int .i64 0, .int .u64 0, .int .u64 0, .int .u64 0, .int .u64 0, .int .i64 0, .slice none 0 0] from World.alloc_heap_new w2 _)
    have H2 := Lib.hid (And.intro hin2 (And.intro hv2 hb2))
    clear hin2 hv2 hb2 Hc
    go_wp2_with (first | (refine wpList_store_core rfl _ _ rfl w2.heap.size _ #[.int .i64 kq, .int .u64 (word sq 0), .int .u64 (word sq 1), .int .u64 (word sq 2), .int .u64 (word sq 3), .int .i64 nq, .slice aq lenq capq] rfl rfl Hz2.out rfl rfl (by simp [Value.oneCell']) ?_; intro w3 hs3 ho3; have Hst := Lib.hid (OptSt.first (cs := [.int .i64 kq, .int .u64 (word sq 0), .int .u64 (word sq 1), .int .u64 (word sq 2), .int .u64 (word sq 3), .int .i64 nq, .slice aq lenq capq]) H1.out.1 H1.out.2.1 H1.out.2.2 Hlt.out H2.out.1 H2.out.2.1 H2.out.2.2 hs3 ho3); have Ho3 := Lib.hid ho3; clear hs3 ho3; have H7 := Lib.hid (core7_in (cs := [.int .i64 kq, .int .u64 (word sq 0), .int .u64 (word sq 1), .int .u64 (word sq 2), .int .u64 (word sq 3), .int .i64 nq, .slice aq lenq capq]) Hst.out.2.2.2.2.1 rfl)))
    obtain ⟨we, hwe⟩ : ∃ we, we = w3.drew := ⟨_, rfl⟩
    have hst3 := Hst.out.later (drew_below _)
    rw [← hwe] at hst3
    have Hs3 := Lib.hid hst3
    have H73 := Lib.hid (core7_in (cs := [.int .i64 kq, .int .u64 (word sq 0), .int .u64 (word sq 1), .int .u64 (word sq 2), .int .u64 (word sq 3), .int .i64 nq, .slice aq lenq capq]) hst3.2.2.2.2.1 rfl)
    have hopt := Hih.out we (againM f first sz).2 (z - 1) (hst3.2.2.1.below HbW.out hR HbW.out.size) hst3.2.1 (by have := Hz.out; omega) (by have := Hm.out; have := Hag.out; omega) (by have := Ht.out; omega)
    have Hopt := Lib.hid hopt
    have Hfar := Lib.hid (show ∀ b, fromB we.heap.size b = true → fromC (w.heap.size + 2) w2.heap.size b = true from fun b h => fromC_iff.2 ⟨by have := fromB_ge h; have := lt_of_block hst3.2.2.2.2.1; have := hst3.2.2.2.2.2; omega, by have := fromB_ge h; have := lt_of_block hst3.2.2.2.2.1; omega⟩)
    have hszk : (againM f first sz).2 ≤ 100000000 := by have := Hm.out; have := Hag.out; omega
    have hszo : (optM f t false (againM f first sz).2).2 ≤ 50000000 := by have := Hm.out; have := Hag.out; omega
    have hbx3 : w3.heap[w.heap.size]? = some (.cells #[.int .i64 k, .int .u64 (word s 0), .int .u64 (word s 1), .int .u64 (word s 2), .int .u64 (word s 3), .int .i64 lo, .int .i64 hi, .int .i64 n, .slice a len cap] 39) := (Ho3.out.block _ (by have := Hst.out.2.2.2.2.2; omega)).trans ((((Below.refl w2.heap.size w2).alloc (Nat.le_refl _) _).block _ (by have := Hst.out.2.2.2.2.2; omega)).trans ((H2.out.2.2.block _ (by have := H1.out.2.1; omega) (by have := Hlt.out; omega)).trans Hbx.out))
    have hbx4 : we.heap[w.heap.size]? = some (.cells #[.int .i64 k, .int .u64 (word s 0), .int .u64 (word s 1), .int .u64 (word s 2), .int .u64 (word s 3), .int .i64 lo, .int .i64 hi, .int .i64 n, .slice a len cap] 39) := by rw [hwe]; exact hbx3
    have H93 := Lib.hid (node9_in (cs := [.int .i64 k, .int .u64 (word s 0), .int .u64 (word s 1), .int .u64 (word s 2), .int .u64 (word s 3), .int .i64 lo, .int .i64 hi, .int .i64 n, .slice a len cap]) hbx4 rfl)
    clear hst3 hopt hbx3 hbx4 hop hm hag
    go_upto_region 3 with fail
    refine wp_region_free (.plain 0 (.plain 2 (.plain 4 (.plain 5 (.fork 1 (.sole 3 (.sole 6 (.sole 7 (.sole 8 (.sole 9 .done))))) 3 (.fork 1 (.sole 6 (.sole 7 (.sole 8 (.sole 9 .done)))) 6 (.sole 1 (.sole 7 (.sole 8 (.sole 9 .done)))))))))) (by kernel_rfl) (by kernel_rfl) (fun c a d v w h => by cases d <;> exact h) ?_
    rw [← hwe]
    clear hwe
    iterate 4
      refine' free_plain ?_ ?_ (fun K hK => ?_)
      rotate_left 1
      · simp only [List.getElem?_toArray, List.getElem?_cons_zero, List.getElem?_cons_succ]; exact rfl
      · exact rfl
      go_big_quiet_op
      refine hK _ ?_
      clear hK K
      try simp only [Act.put, List.setIfInBounds_toArray, List.set_cons_zero, List.set_cons_succ]
    refine free_fork ?_ ?_
    · refine' free_step ?_ ?_ (fun K hK => ?_)
      rotate_left 1
      · simp only [List.getElem?_toArray, List.getElem?_cons_zero, List.getElem?_cons_succ]; exact rfl
      · exact rfl
      refine wp_load_core _ rfl w2.heap.size 0 _ rfl (by first | exact H73.out | exact H73n.out) ?_
      refine hK _ _ ?_
      clear hK K
      try simp only [Act.put, List.setIfInBounds_toArray, List.set_cons_zero, List.set_cons_succ]
      refine' free_sole ?_ ?_ (fun K hK => ?_)
      rotate_left 1
      · simp only [List.getElem?_toArray, List.getElem?_cons_zero, List.getElem?_cons_succ]; exact rfl
      · exact rfl
      refine wp_load_nodeK _ rfl w.heap.size 0 _ rfl H93.out ?_
      refine hK _ _ ?_
      clear hK K
      try simp only [Act.put, List.setIfInBounds_toArray, List.set_cons_zero, List.set_cons_succ]
      refine' free_sole ?_ ?_ (fun K hK => ?_)
      rotate_left 1
      · simp only [List.getElem?_toArray, List.getElem?_cons_zero, List.getElem?_cons_succ]; exact rfl
      · exact rfl
      go_simp
      refine (Hopt.out).mono ?_
      rintro e wo ⟨ds, rfl, hy, hv3, hb3⟩
      refine hK _ _ ?_
      obtain ⟨kd, sd, nd, ad, lend, capd, rfl⟩ := hy.lit
      have hst := Hs3.out.but Hlt.out hb3 hv3
      have hy := hy.mono (Nat.le_refl _) (q := fromC (w.heap.size + 2) w2.heap.size) fun b h1 _ => ⟨Hfar.out b h1, rfl⟩
      have Hsn := Lib.hid hst
      have Hds := Lib.hid hy
      have H73n := Lib.hid (core7_in (cs := [.int .i64 kq, .int .u64 (word sq 0), .int .u64 (word sq 1), .int .u64 (word sq 2), .int .u64 (word sq 3), .int .i64 nq, .slice aq lenq capq]) hst.2.2.2.2.1 rfl)
      have Hp3 := Lib.hid (hst.two (k := 3) Hlt.out hy rfl (by omega))
      clear hy hst hv3 hb3
      clear hK K
      try simp only [Act.put, List.setIfInBounds_toArray, List.set_cons_zero, List.set_cons_succ]
      refine' free_sole ?_ ?_ (fun K hK => ?_)
      rotate_left 1
      · simp only [List.getElem?_toArray, List.getElem?_cons_zero, List.getElem?_cons_succ]; exact rfl
      · exact rfl
      unfold Oper.wp execOp
      go_simp
      refine hK _ _ ?_
      clear hK K
      refine' free_sole ?_ ?_ (fun K hK => ?_)
      rotate_left 1
      · simp only [List.getElem?_toArray, List.getElem?_cons_zero, List.getElem?_cons_succ]; exact rfl
      · exact rfl
      go_simp
      refine (Hp3.out).mono ?_
      rintro e wp ⟨es, rfl, hy, hst⟩
      refine hK _ _ ?_
      obtain ⟨ke, se, ne, ae, lene, cape, rfl⟩ := hy.lit
      have He := Lib.hid (And.intro hy hst)
      clear hy hst
      clear hK K
      try simp only [Act.put, List.setIfInBounds_toArray, List.set_cons_zero, List.set_cons_succ]
      refine' free_sole ?_ ?_ (fun K hK => ?_)
      rotate_left 1
      · simp only [List.getElem?_toArray, List.getElem?_cons_zero, List.getElem?_cons_succ]; exact rfl
      · exact rfl
      refine wp_store_core _ _ rfl w2.heap.size _ #[.int .i64 ke, .int .u64 (word se 0), .int .u64 (word se 1), .int .u64 (word se 2), .int .u64 (word se 3), .int .i64 ne, .slice ae lene cape] rfl rfl He.out.2.2.2.2.2.1 rfl rfl (by simp [Value.oneCell']) ?_
      intro w7 hs7 ho7
      refine hK _ _ ?_
      have H7 := Lib.hid (And.intro hs7 ho7)
      clear hs7 ho7
      clear hK K
      try simp only [Act.put]
      refine free_done ?_
      have Hs7 := Lib.hid (He.out.2.put Hlt.out He.out.1 H7.out.1 H7.out.2)
      obtain ⟨wd, hwd⟩ : ∃ wd, wd = w7.drew := ⟨_, rfl⟩
      have hst4 := Hs7.out.later (drew_below _)
      rw [← hwd] at hst4
      have Hs4 := Lib.hid hst4
      have H74 := Lib.hid (core7_in (cs := [.int .i64 ke, .int .u64 (word se 0), .int .u64 (word se 1), .int .u64 (word se 2), .int .u64 (word se 3), .int .i64 ne, .slice ae lene cape]) hst4.2.2.2.2.1 rfl)
      have hszl : (optM f t false (againM f first sz).2).2 + 1 ≤ 100000000 := by simp only [againM, optM] at *; omega
      have Hl4 := Lib.hid (hst4.leaf (k := 1) Hlt.out rfl (by omega))
      clear hst4
      go_upto_region 4 with fail
      refine wp_region_free (.plain 0 (.plain 2 (.fork 1 (.sole 3 (.sole 4 (.sole 5 (.sole 6 .done)))) 3 (.sole 1 (.sole 4 (.sole 5 (.sole 6 .done))))))) (by kernel_rfl) (by kernel_rfl) (fun c a d v w h => by cases d <;> exact h) ?_
      rw [← hwd]
      clear hwd
      iterate 2
        refine' free_plain ?_ ?_ (fun K hK => ?_)
        rotate_left 1
        · simp only [List.getElem?_toArray, List.getElem?_cons_zero, List.getElem?_cons_succ]; exact rfl
        · exact rfl
        go_big_quiet_op
        refine hK _ ?_
        clear hK K
        try simp only [Act.put, List.setIfInBounds_toArray, List.set_cons_zero, List.set_cons_succ]
      refine free_fork ?_ ?_
      · refine' free_step ?_ ?_ (fun K hK => ?_)
        rotate_left 1
        · simp only [List.getElem?_toArray, List.getElem?_cons_zero, List.getElem?_cons_succ]; exact rfl
        · exact rfl
        refine wp_load_core _ rfl w2.heap.size 0 _ rfl (by first | exact H74.out | exact H74n.out) ?_
        refine hK _ _ ?_
        clear hK K
        try simp only [Act.put, List.setIfInBounds_toArray, List.set_cons_zero, List.set_cons_succ]
        refine' free_sole ?_ ?_ (fun K hK => ?_)
        rotate_left 1
        · simp only [List.getElem?_toArray, List.getElem?_cons_zero, List.getElem?_cons_succ]; exact rfl
        · exact rfl
        go_simp
        refine (Hl4.out).mono ?_
        rintro e wl ⟨fs, rfl, hy, hst⟩
        refine hK _ _ ?_
        obtain ⟨kf, sf, nf, af, lenf, capf, rfl⟩ := hy.lit
        have Hfs := Lib.hid hy
        have Hsl := Lib.hid hst
        have H74n := Lib.hid (core7_in (cs := [.int .i64 ke, .int .u64 (word se 0), .int .u64 (word se 1), .int .u64 (word se 2), .int .u64 (word se 3), .int .i64 ne, .slice ae lene cape]) hst.2.2.2.2.1 rfl)
        have Hp4 := Lib.hid (hst.two (k := 4) Hlt.out hy rfl (by omega))
        clear hy hst
        clear hK K
        try simp only [Act.put, List.setIfInBounds_toArray, List.set_cons_zero, List.set_cons_succ]
        refine' free_sole ?_ ?_ (fun K hK => ?_)
        rotate_left 1
        · simp only [List.getElem?_toArray, List.getElem?_cons_zero, List.getElem?_cons_succ]; exact rfl
        · exact rfl
        unfold Oper.wp execOp
        go_simp
        refine hK _ _ ?_
        clear hK K
        refine' free_sole ?_ ?_ (fun K hK => ?_)
        rotate_left 1
        · simp only [List.getElem?_toArray, List.getElem?_cons_zero, List.getElem?_cons_succ]; exact rfl
        · exact rfl
        go_simp
        refine (Hp4.out).mono ?_
        rintro e wm ⟨gs, rfl, hy, hst⟩
        refine hK _ _ ?_
        obtain ⟨kg, sg, ng, ag, leng, capg, rfl⟩ := hy.lit
        have Hg := Lib.hid (And.intro hy hst)
        clear hy hst
        clear hK K
        try simp only [Act.put, List.setIfInBounds_toArray, List.set_cons_zero, List.set_cons_succ]
        refine' free_sole ?_ ?_ (fun K hK => ?_)
        rotate_left 1
        · simp only [List.getElem?_toArray, List.getElem?_cons_zero, List.getElem?_cons_succ]; exact rfl
        · exact rfl
        refine wp_store_core _ _ rfl (w.heap.size + 1) _ #[.int .i64 kg, .int .u64 (word sg 0), .int .u64 (word sg 1), .int .u64 (word sg 2), .int .u64 (word sg 3), .int .i64 ng, .slice ag leng capg] rfl rfl Hg.out.2.2.2.2.1 rfl rfl (by simp [Value.oneCell']) ?_
        intro w5 hs5 ho5
        refine hK _ _ ?_
        have H5 := Lib.hid (And.intro hs5 ho5)
        clear hs5 ho5
        clear hK K
        try simp only [Act.put]
        refine free_done ?_
        go_wp2_with fail
        refine bodyPost_ret (v := .agg #[.int .i64 kg, .int .u64 (word sg 0), .int .u64 (word sg 1), .int .u64 (word sg 2), .int .u64 (word sg 3), .int .i64 ng, .slice ag leng capg]) (results_core rfl _ _ (w.heap.size + 1) _ rfl H5.out.1 rfl) rfl ?_
        exact Hg.out.2.fin Hlt.out Hg.out.1 H5.out.2
      · refine' free_step ?_ ?_ (fun K hK => ?_)
        rotate_left 1
        · simp only [List.getElem?_toArray, List.getElem?_cons_zero, List.getElem?_cons_succ]; exact rfl
        · exact rfl
        go_simp
        refine (Hl4.out).mono ?_
        rintro e wl ⟨fs, rfl, hy, hst⟩
        refine hK _ _ ?_
        obtain ⟨kf, sf, nf, af, lenf, capf, rfl⟩ := hy.lit
        have Hfs := Lib.hid hy
        have Hsl := Lib.hid hst
        have H74n := Lib.hid (core7_in (cs := [.int .i64 ke, .int .u64 (word se 0), .int .u64 (word se 1), .int .u64 (word se 2), .int .u64 (word se 3), .int .i64 ne, .slice ae lene cape]) hst.2.2.2.2.1 rfl)
        have Hp4 := Lib.hid (hst.two (k := 4) Hlt.out hy rfl (by omega))
        clear hy hst
        clear hK K
        try simp only [Act.put, List.setIfInBounds_toArray, List.set_cons_zero, List.set_cons_succ]
        refine' free_sole ?_ ?_ (fun K hK => ?_)
        rotate_left 1
        · simp only [List.getElem?_toArray, List.getElem?_cons_zero, List.getElem?_cons_succ]; exact rfl
        · exact rfl
        refine wp_load_core _ rfl w2.heap.size 0 _ rfl (by first | exact H74.out | exact H74n.out) ?_
        refine hK _ _ ?_
        clear hK K
        try simp only [Act.put, List.setIfInBounds_toArray, List.set_cons_zero, List.set_cons_succ]
        refine' free_sole ?_ ?_ (fun K hK => ?_)
        rotate_left 1
        · simp only [List.getElem?_toArray, List.getElem?_cons_zero, List.getElem?_cons_succ]; exact rfl
        · exact rfl
        unfold Oper.wp execOp
        go_simp
        refine hK _ _ ?_
        clear hK K
        refine' free_sole ?_ ?_ (fun K hK => ?_)
        rotate_left 1
        · simp only [List.getElem?_toArray, List.getElem?_cons_zero, List.getElem?_cons_succ]; exact rfl
        · exact rfl
        go_simp
        refine (Hp4.out).mono ?_
        rintro e wm ⟨gs, rfl, hy, hst⟩
        refine hK _ _ ?_
        obtain ⟨kg, sg, ng, ag, leng, capg, rfl⟩ := hy.lit
        have Hg := Lib.hid (And.intro hy hst)
        clear hy hst
        clear hK K
        try simp only [Act.put, List.setIfInBounds_toArray, List.set_cons_zero, List.set_cons_succ]
        refine' free_sole ?_ ?_ (fun K hK => ?_)
        rotate_left 1
        · simp only [List.getElem?_toArray, List.getElem?_cons_zero, List.getElem?_cons_succ]; exact rfl
        · exact rfl
        refine wp_store_core _ _ rfl (w.heap.size + 1) _ #[.int .i64 kg, .int .u64 (word sg 0), .int .u64 (word sg 1), .int .u64 (word sg 2), .int .u64 (word sg 3), .int .i64 ng, .slice ag leng capg] rfl rfl Hg.out.2.2.2.2.1 rfl rfl (by simp [Value.oneCell']) ?_
        intro w5 hs5 ho5
        refine hK _ _ ?_
        have H5 := Lib.hid (And.intro hs5 ho5)
        clear hs5 ho5
        clear hK K
        try simp only [Act.put]
        refine free_done ?_
        go_wp2_with fail
        refine bodyPost_ret (v := .agg #[.int .i64 kg, .int .u64 (word sg 0), .int .u64 (word sg 1), .int .u64 (word sg 2), .int .u64 (word sg 3), .int .i64 ng, .slice ag leng capg]) (results_core rfl _ _ (w.heap.size + 1) _ rfl H5.out.1 rfl) rfl ?_
        exact Hg.out.2.fin Hlt.out Hg.out.1 H5.out.2
    · refine' free_step ?_ ?_ (fun K hK => ?_)
      rotate_left 1
      · simp only [List.getElem?_toArray, List.getElem?_cons_zero, List.getElem?_cons_succ]; exact rfl
      · exact rfl
      refine wp_load_nodeK _ rfl w.heap.size 0 _ rfl H93.out ?_
      refine hK _ _ ?_
      clear hK K
      try simp only [Act.put, List.setIfInBounds_toArray, List.set_cons_zero, List.set_cons_succ]
      refine free_fork ?_ ?_
      · refine' free_step ?_ ?_ (fun K hK => ?_)
        rotate_left 1
        · simp only [List.getElem?_toArray, List.getElem?_cons_zero, List.getElem?_cons_succ]; exact rfl
        · exact rfl
        refine wp_load_core _ rfl w2.heap.size 0 _ rfl (by first | exact H73.out | exact H73n.out) ?_
        refine hK _ _ ?_
        clear hK K
        try simp only [Act.put, List.setIfInBounds_toArray, List.set_cons_zero, List.set_cons_succ]
        refine' free_sole ?_ ?_ (fun K hK => ?_)
        rotate_left 1
        · simp only [List.getElem?_toArray, List.getElem?_cons_zero, List.getElem?_cons_succ]; exact rfl
        · exact rfl
        go_simp
        refine (Hopt.out).mono ?_
        rintro e wo ⟨ds, rfl, hy, hv3, hb3⟩
        refine hK _ _ ?_
        obtain ⟨kd, sd, nd, ad, lend, capd, rfl⟩ := hy.lit
        have hst := Hs3.out.but Hlt.out hb3 hv3
        have hy := hy.mono (Nat.le_refl _) (q := fromC (w.heap.size + 2) w2.heap.size) fun b h1 _ => ⟨Hfar.out b h1, rfl⟩
        have Hsn := Lib.hid hst
        have Hds := Lib.hid hy
        have H73n := Lib.hid (core7_in (cs := [.int .i64 kq, .int .u64 (word sq 0), .int .u64 (word sq 1), .int .u64 (word sq 2), .int .u64 (word sq 3), .int .i64 nq, .slice aq lenq capq]) hst.2.2.2.2.1 rfl)
        have Hp3 := Lib.hid (hst.two (k := 3) Hlt.out hy rfl (by omega))
        clear hy hst hv3 hb3
        clear hK K
        try simp only [Act.put, List.setIfInBounds_toArray, List.set_cons_zero, List.set_cons_succ]
        refine' free_sole ?_ ?_ (fun K hK => ?_)
        rotate_left 1
        · simp only [List.getElem?_toArray, List.getElem?_cons_zero, List.getElem?_cons_succ]; exact rfl
        · exact rfl
        unfold Oper.wp execOp
        go_simp
        refine hK _ _ ?_
        clear hK K
        refine' free_sole ?_ ?_ (fun K hK => ?_)
        rotate_left 1
        · simp only [List.getElem?_toArray, List.getElem?_cons_zero, List.getElem?_cons_succ]; exact rfl
        · exact rfl
        go_simp
        refine (Hp3.out).mono ?_
        rintro e wp ⟨es, rfl, hy, hst⟩
        refine hK _ _ ?_
        obtain ⟨ke, se, ne, ae, lene, cape, rfl⟩ := hy.lit
        have He := Lib.hid (And.intro hy hst)
        clear hy hst
        clear hK K
        try simp only [Act.put, List.setIfInBounds_toArray, List.set_cons_zero, List.set_cons_succ]
        refine' free_sole ?_ ?_ (fun K hK => ?_)
        rotate_left 1
        · simp only [List.getElem?_toArray, List.getElem?_cons_zero, List.getElem?_cons_succ]; exact rfl
        · exact rfl
        refine wp_store_core _ _ rfl w2.heap.size _ #[.int .i64 ke, .int .u64 (word se 0), .int .u64 (word se 1), .int .u64 (word se 2), .int .u64 (word se 3), .int .i64 ne, .slice ae lene cape] rfl rfl He.out.2.2.2.2.2.1 rfl rfl (by simp [Value.oneCell']) ?_
        intro w7 hs7 ho7
        refine hK _ _ ?_
        have H7 := Lib.hid (And.intro hs7 ho7)
        clear hs7 ho7
        clear hK K
        try simp only [Act.put]
        refine free_done ?_
        have Hs7 := Lib.hid (He.out.2.put Hlt.out He.out.1 H7.out.1 H7.out.2)
        obtain ⟨wd, hwd⟩ : ∃ wd, wd = w7.drew := ⟨_, rfl⟩
        have hst4 := Hs7.out.later (drew_below _)
        rw [← hwd] at hst4
        have Hs4 := Lib.hid hst4
        have H74 := Lib.hid (core7_in (cs := [.int .i64 ke, .int .u64 (word se 0), .int .u64 (word se 1), .int .u64 (word se 2), .int .u64 (word se 3), .int .i64 ne, .slice ae lene cape]) hst4.2.2.2.2.1 rfl)
        have hszl : (optM f t false (againM f first sz).2).2 + 1 ≤ 100000000 := by simp only [againM, optM] at *; omega
        have Hl4 := Lib.hid (hst4.leaf (k := 1) Hlt.out rfl (by omega))
        clear hst4
        go_upto_region 4 with fail
        refine wp_region_free (.plain 0 (.plain 2 (.fork 1 (.sole 3 (.sole 4 (.sole 5 (.sole 6 .done)))) 3 (.sole 1 (.sole 4 (.sole 5 (.sole 6 .done))))))) (by kernel_rfl) (by kernel_rfl) (fun c a d v w h => by cases d <;> exact h) ?_
        rw [← hwd]
        clear hwd
        iterate 2
          refine' free_plain ?_ ?_ (fun K hK => ?_)
          rotate_left 1
          · simp only [List.getElem?_toArray, List.getElem?_cons_zero, List.getElem?_cons_succ]; exact rfl
          · exact rfl
          go_big_quiet_op
          refine hK _ ?_
          clear hK K
          try simp only [Act.put, List.setIfInBounds_toArray, List.set_cons_zero, List.set_cons_succ]
        refine free_fork ?_ ?_
        · refine' free_step ?_ ?_ (fun K hK => ?_)
          rotate_left 1
          · simp only [List.getElem?_toArray, List.getElem?_cons_zero, List.getElem?_cons_succ]; exact rfl
          · exact rfl
          refine wp_load_core _ rfl w2.heap.size 0 _ rfl (by first | exact H74.out | exact H74n.out) ?_
          refine hK _ _ ?_
          clear hK K
          try simp only [Act.put, List.setIfInBounds_toArray, List.set_cons_zero, List.set_cons_succ]
          refine' free_sole ?_ ?_ (fun K hK => ?_)
          rotate_left 1
          · simp only [List.getElem?_toArray, List.getElem?_cons_zero, List.getElem?_cons_succ]; exact rfl
          · exact rfl
          go_simp
          refine (Hl4.out).mono ?_
          rintro e wl ⟨fs, rfl, hy, hst⟩
          refine hK _ _ ?_
          obtain ⟨kf, sf, nf, af, lenf, capf, rfl⟩ := hy.lit
          have Hfs := Lib.hid hy
          have Hsl := Lib.hid hst
          have H74n := Lib.hid (core7_in (cs := [.int .i64 ke, .int .u64 (word se 0), .int .u64 (word se 1), .int .u64 (word se 2), .int .u64 (word se 3), .int .i64 ne, .slice ae lene cape]) hst.2.2.2.2.1 rfl)
          have Hp4 := Lib.hid (hst.two (k := 4) Hlt.out hy rfl (by omega))
          clear hy hst
          clear hK K
          try simp only [Act.put, List.setIfInBounds_toArray, List.set_cons_zero, List.set_cons_succ]
          refine' free_sole ?_ ?_ (fun K hK => ?_)
          rotate_left 1
          · simp only [List.getElem?_toArray, List.getElem?_cons_zero, List.getElem?_cons_succ]; exact rfl
          · exact rfl
          unfold Oper.wp execOp
          go_simp
          refine hK _ _ ?_
          clear hK K
          refine' free_sole ?_ ?_ (fun K hK => ?_)
          rotate_left 1
          · simp only [List.getElem?_toArray, List.getElem?_cons_zero, List.getElem?_cons_succ]; exact rfl
          · exact rfl
          go_simp
          refine (Hp4.out).mono ?_
          rintro e wm ⟨gs, rfl, hy, hst⟩
          refine hK _ _ ?_
          obtain ⟨kg, sg, ng, ag, leng, capg, rfl⟩ := hy.lit
          have Hg := Lib.hid (And.intro hy hst)
          clear hy hst
          clear hK K
          try simp only [Act.put, List.setIfInBounds_toArray, List.set_cons_zero, List.set_cons_succ]
          refine' free_sole ?_ ?_ (fun K hK => ?_)
          rotate_left 1
          · simp only [List.getElem?_toArray, List.getElem?_cons_zero, List.getElem?_cons_succ]; exact rfl
          · exact rfl
          refine wp_store_core _ _ rfl (w.heap.size + 1) _ #[.int .i64 kg, .int .u64 (word sg 0), .int .u64 (word sg 1), .int .u64 (word sg 2), .int .u64 (word sg 3), .int .i64 ng, .slice ag leng capg] rfl rfl Hg.out.2.2.2.2.1 rfl rfl (by simp [Value.oneCell']) ?_
          intro w5 hs5 ho5
          refine hK _ _ ?_
          have H5 := Lib.hid (And.intro hs5 ho5)
          clear hs5 ho5
          clear hK K
          try simp only [Act.put]
          refine free_done ?_
          go_wp2_with fail
          refine bodyPost_ret (v := .agg #[.int .i64 kg, .int .u64 (word sg 0), .int .u64 (word sg 1), .int .u64 (word sg 2), .int .u64 (word sg 3), .int .i64 ng, .slice ag leng capg]) (results_core rfl _ _ (w.heap.size + 1) _ rfl H5.out.1 rfl) rfl ?_
          exact Hg.out.2.fin Hlt.out Hg.out.1 H5.out.2
        · refine' free_step ?_ ?_ (fun K hK => ?_)
          rotate_left 1
          · simp only [List.getElem?_toArray, List.getElem?_cons_zero, List.getElem?_cons_succ]; exact rfl
          · exact rfl
          go_simp
          refine (Hl4.out).mono ?_
          rintro e wl ⟨fs, rfl, hy, hst⟩
          refine hK _ _ ?_
          obtain ⟨kf, sf, nf, af, lenf, capf, rfl⟩ := hy.lit
          have Hfs := Lib.hid hy
          have Hsl := Lib.hid hst
          have H74n := Lib.hid (core7_in (cs := [.int .i64 ke, .int .u64 (word se 0), .int .u64 (word se 1), .int .u64 (word se 2), .int .u64 (word se 3), .int .i64 ne, .slice ae lene cape]) hst.2.2.2.2.1 rfl)
          have Hp4 := Lib.hid (hst.two (k := 4) Hlt.out hy rfl (by omega))
          clear hy hst
          clear hK K
          try simp only [Act.put, List.setIfInBounds_toArray, List.set_cons_zero, List.set_cons_succ]
          refine' free_sole ?_ ?_ (fun K hK => ?_)
          rotate_left 1
          · simp only [List.getElem?_toArray, List.getElem?_cons_zero, List.getElem?_cons_succ]; exact rfl
          · exact rfl
          refine wp_load_core _ rfl w2.heap.size 0 _ rfl (by first | exact H74.out | exact H74n.out) ?_
          refine hK _ _ ?_
          clear hK K
          try simp only [Act.put, List.setIfInBounds_toArray, List.set_cons_zero, List.set_cons_succ]
          refine' free_sole ?_ ?_ (fun K hK => ?_)
          rotate_left 1
          · simp only [List.getElem?_toArray, List.getElem?_cons_zero, List.getElem?_cons_succ]; exact rfl
          · exact rfl
          unfold Oper.wp execOp
          go_simp
          refine hK _ _ ?_
          clear hK K
          refine' free_sole ?_ ?_ (fun K hK => ?_)
          rotate_left 1
          · simp only [List.getElem?_toArray, List.getElem?_cons_zero, List.getElem?_cons_succ]; exact rfl
          · exact rfl
          go_simp
          refine (Hp4.out).mono ?_
          rintro e wm ⟨gs, rfl, hy, hst⟩
          refine hK _ _ ?_
          obtain ⟨kg, sg, ng, ag, leng, capg, rfl⟩ := hy.lit
          have Hg := Lib.hid (And.intro hy hst)
          clear hy hst
          clear hK K
          try simp only [Act.put, List.setIfInBounds_toArray, List.set_cons_zero, List.set_cons_succ]
          refine' free_sole ?_ ?_ (fun K hK => ?_)
          rotate_left 1
          · simp only [List.getElem?_toArray, List.getElem?_cons_zero, List.getElem?_cons_succ]; exact rfl
          · exact rfl
          refine wp_store_core _ _ rfl (w.heap.size + 1) _ #[.int .i64 kg, .int .u64 (word sg 0), .int .u64 (word sg 1), .int .u64 (word sg 2), .int .u64 (word sg 3), .int .i64 ng, .slice ag leng capg] rfl rfl Hg.out.2.2.2.2.1 rfl rfl (by simp [Value.oneCell']) ?_
          intro w5 hs5 ho5
          refine hK _ _ ?_
          have H5 := Lib.hid (And.intro hs5 ho5)
          clear hs5 ho5
          clear hK K
          try simp only [Act.put]
          refine free_done ?_
          go_wp2_with fail
          refine bodyPost_ret (v := .agg #[.int .i64 kg, .int .u64 (word sg 0), .int .u64 (word sg 1), .int .u64 (word sg 2), .int .u64 (word sg 3), .int .i64 ng, .slice ag leng capg]) (results_core rfl _ _ (w.heap.size + 1) _ rfl H5.out.1 rfl) rfl ?_
          exact Hg.out.2.fin Hlt.out Hg.out.1 H5.out.2
      · refine' free_step ?_ ?_ (fun K hK => ?_)
        rotate_left 1
        · simp only [List.getElem?_toArray, List.getElem?_cons_zero, List.getElem?_cons_succ]; exact rfl
        · exact rfl
        go_simp
        refine (Hopt.out).mono ?_
        rintro e wo ⟨ds, rfl, hy, hv3, hb3⟩
        refine hK _ _ ?_
        obtain ⟨kd, sd, nd, ad, lend, capd, rfl⟩ := hy.lit
        have hst := Hs3.out.but Hlt.out hb3 hv3
        have hy := hy.mono (Nat.le_refl _) (q := fromC (w.heap.size + 2) w2.heap.size) fun b h1 _ => ⟨Hfar.out b h1, rfl⟩
        have Hsn := Lib.hid hst
        have Hds := Lib.hid hy
        have H73n := Lib.hid (core7_in (cs := [.int .i64 kq, .int .u64 (word sq 0), .int .u64 (word sq 1), .int .u64 (word sq 2), .int .u64 (word sq 3), .int .i64 nq, .slice aq lenq capq]) hst.2.2.2.2.1 rfl)
        have Hp3 := Lib.hid (hst.two (k := 3) Hlt.out hy rfl (by omega))
        clear hy hst hv3 hb3
        clear hK K
        try simp only [Act.put, List.setIfInBounds_toArray, List.set_cons_zero, List.set_cons_succ]
        refine' free_sole ?_ ?_ (fun K hK => ?_)
        rotate_left 1
        · simp only [List.getElem?_toArray, List.getElem?_cons_zero, List.getElem?_cons_succ]; exact rfl
        · exact rfl
        refine wp_load_core _ rfl w2.heap.size 0 _ rfl (by first | exact H73.out | exact H73n.out) ?_
        refine hK _ _ ?_
        clear hK K
        try simp only [Act.put, List.setIfInBounds_toArray, List.set_cons_zero, List.set_cons_succ]
        refine' free_sole ?_ ?_ (fun K hK => ?_)
        rotate_left 1
        · simp only [List.getElem?_toArray, List.getElem?_cons_zero, List.getElem?_cons_succ]; exact rfl
        · exact rfl
        unfold Oper.wp execOp
        go_simp
        refine hK _ _ ?_
        clear hK K
        refine' free_sole ?_ ?_ (fun K hK => ?_)
        rotate_left 1
        · simp only [List.getElem?_toArray, List.getElem?_cons_zero, List.getElem?_cons_succ]; exact rfl
        · exact rfl
        go_simp
        refine (Hp3.out).mono ?_
        rintro e wp ⟨es, rfl, hy, hst⟩
        refine hK _ _ ?_
        obtain ⟨ke, se, ne, ae, lene, cape, rfl⟩ := hy.lit
        have He := Lib.hid (And.intro hy hst)
        clear hy hst
        clear hK K
        try simp only [Act.put, List.setIfInBounds_toArray, List.set_cons_zero, List.set_cons_succ]
        refine' free_sole ?_ ?_ (fun K hK => ?_)
        rotate_left 1
        · simp only [List.getElem?_toArray, List.getElem?_cons_zero, List.getElem?_cons_succ]; exact rfl
        · exact rfl
        refine wp_store_core _ _ rfl w2.heap.size _ #[.int .i64 ke, .int .u64 (word se 0), .int .u64 (word se 1), .int .u64 (word se 2), .int .u64 (word se 3), .int .i64 ne, .slice ae lene cape] rfl rfl He.out.2.2.2.2.2.1 rfl rfl (by simp [Value.oneCell']) ?_
        intro w7 hs7 ho7
        refine hK _ _ ?_
        have H7 := Lib.hid (And.intro hs7 ho7)
        clear hs7 ho7
        clear hK K
        try simp only [Act.put]
        refine free_done ?_
        have Hs7 := Lib.hid (He.out.2.put Hlt.out He.out.1 H7.out.1 H7.out.2)
        obtain ⟨wd, hwd⟩ : ∃ wd, wd = w7.drew := ⟨_, rfl⟩
        have hst4 := Hs7.out.later (drew_below _)
        rw [← hwd] at hst4
        have Hs4 := Lib.hid hst4
        have H74 := Lib.hid (core7_in (cs := [.int .i64 ke, .int .u64 (word se 0), .int .u64 (word se 1), .int .u64 (word se 2), .int .u64 (word se 3), .int .i64 ne, .slice ae lene cape]) hst4.2.2.2.2.1 rfl)
        have hszl : (optM f t false (againM f first sz).2).2 + 1 ≤ 100000000 := by simp only [againM, optM] at *; omega
        have Hl4 := Lib.hid (hst4.leaf (k := 1) Hlt.out rfl (by omega))
        clear hst4
        go_upto_region 4 with fail
        refine wp_region_free (.plain 0 (.plain 2 (.fork 1 (.sole 3 (.sole 4 (.sole 5 (.sole 6 .done)))) 3 (.sole 1 (.sole 4 (.sole 5 (.sole 6 .done))))))) (by kernel_rfl) (by kernel_rfl) (fun c a d v w h => by cases d <;> exact h) ?_
        rw [← hwd]
        clear hwd
        iterate 2
          refine' free_plain ?_ ?_ (fun K hK => ?_)
          rotate_left 1
          · simp only [List.getElem?_toArray, List.getElem?_cons_zero, List.getElem?_cons_succ]; exact rfl
          · exact rfl
          go_big_quiet_op
          refine hK _ ?_
          clear hK K
          try simp only [Act.put, List.setIfInBounds_toArray, List.set_cons_zero, List.set_cons_succ]
        refine free_fork ?_ ?_
        · refine' free_step ?_ ?_ (fun K hK => ?_)
          rotate_left 1
          · simp only [List.getElem?_toArray, List.getElem?_cons_zero, List.getElem?_cons_succ]; exact rfl
          · exact rfl
          refine wp_load_core _ rfl w2.heap.size 0 _ rfl (by first | exact H74.out | exact H74n.out) ?_
          refine hK _ _ ?_
          clear hK K
          try simp only [Act.put, List.setIfInBounds_toArray, List.set_cons_zero, List.set_cons_succ]
          refine' free_sole ?_ ?_ (fun K hK => ?_)
          rotate_left 1
          · simp only [List.getElem?_toArray, List.getElem?_cons_zero, List.getElem?_cons_succ]; exact rfl
          · exact rfl
          go_simp
          refine (Hl4.out).mono ?_
          rintro e wl ⟨fs, rfl, hy, hst⟩
          refine hK _ _ ?_
          obtain ⟨kf, sf, nf, af, lenf, capf, rfl⟩ := hy.lit
          have Hfs := Lib.hid hy
          have Hsl := Lib.hid hst
          have H74n := Lib.hid (core7_in (cs := [.int .i64 ke, .int .u64 (word se 0), .int .u64 (word se 1), .int .u64 (word se 2), .int .u64 (word se 3), .int .i64 ne, .slice ae lene cape]) hst.2.2.2.2.1 rfl)
          have Hp4 := Lib.hid (hst.two (k := 4) Hlt.out hy rfl (by omega))
          clear hy hst
          clear hK K
          try simp only [Act.put, List.setIfInBounds_toArray, List.set_cons_zero, List.set_cons_succ]
          refine' free_sole ?_ ?_ (fun K hK => ?_)
          rotate_left 1
          · simp only [List.getElem?_toArray, List.getElem?_cons_zero, List.getElem?_cons_succ]; exact rfl
          · exact rfl
          unfold Oper.wp execOp
          go_simp
          refine hK _ _ ?_
          clear hK K
          refine' free_sole ?_ ?_ (fun K hK => ?_)
          rotate_left 1
          · simp only [List.getElem?_toArray, List.getElem?_cons_zero, List.getElem?_cons_succ]; exact rfl
          · exact rfl
          go_simp
          refine (Hp4.out).mono ?_
          rintro e wm ⟨gs, rfl, hy, hst⟩
          refine hK _ _ ?_
          obtain ⟨kg, sg, ng, ag, leng, capg, rfl⟩ := hy.lit
          have Hg := Lib.hid (And.intro hy hst)
          clear hy hst
          clear hK K
          try simp only [Act.put, List.setIfInBounds_toArray, List.set_cons_zero, List.set_cons_succ]
          refine' free_sole ?_ ?_ (fun K hK => ?_)
          rotate_left 1
          · simp only [List.getElem?_toArray, List.getElem?_cons_zero, List.getElem?_cons_succ]; exact rfl
          · exact rfl
          refine wp_store_core _ _ rfl (w.heap.size + 1) _ #[.int .i64 kg, .int .u64 (word sg 0), .int .u64 (word sg 1), .int .u64 (word sg 2), .int .u64 (word sg 3), .int .i64 ng, .slice ag leng capg] rfl rfl Hg.out.2.2.2.2.1 rfl rfl (by simp [Value.oneCell']) ?_
          intro w5 hs5 ho5
          refine hK _ _ ?_
          have H5 := Lib.hid (And.intro hs5 ho5)
          clear hs5 ho5
          clear hK K
          try simp only [Act.put]
          refine free_done ?_
          go_wp2_with fail
          refine bodyPost_ret (v := .agg #[.int .i64 kg, .int .u64 (word sg 0), .int .u64 (word sg 1), .int .u64 (word sg 2), .int .u64 (word sg 3), .int .i64 ng, .slice ag leng capg]) (results_core rfl _ _ (w.heap.size + 1) _ rfl H5.out.1 rfl) rfl ?_
          exact Hg.out.2.fin Hlt.out Hg.out.1 H5.out.2
        · refine' free_step ?_ ?_ (fun K hK => ?_)
          rotate_left 1
          · simp only [List.getElem?_toArray, List.getElem?_cons_zero, List.getElem?_cons_succ]; exact rfl
          · exact rfl
          go_simp
          refine (Hl4.out).mono ?_
          rintro e wl ⟨fs, rfl, hy, hst⟩
          refine hK _ _ ?_
          obtain ⟨kf, sf, nf, af, lenf, capf, rfl⟩ := hy.lit
          have Hfs := Lib.hid hy
          have Hsl := Lib.hid hst
          have H74n := Lib.hid (core7_in (cs := [.int .i64 ke, .int .u64 (word se 0), .int .u64 (word se 1), .int .u64 (word se 2), .int .u64 (word se 3), .int .i64 ne, .slice ae lene cape]) hst.2.2.2.2.1 rfl)
          have Hp4 := Lib.hid (hst.two (k := 4) Hlt.out hy rfl (by omega))
          clear hy hst
          clear hK K
          try simp only [Act.put, List.setIfInBounds_toArray, List.set_cons_zero, List.set_cons_succ]
          refine' free_sole ?_ ?_ (fun K hK => ?_)
          rotate_left 1
          · simp only [List.getElem?_toArray, List.getElem?_cons_zero, List.getElem?_cons_succ]; exact rfl
          · exact rfl
          refine wp_load_core _ rfl w2.heap.size 0 _ rfl (by first | exact H74.out | exact H74n.out) ?_
          refine hK _ _ ?_
          clear hK K
          try simp only [Act.put, List.setIfInBounds_toArray, List.set_cons_zero, List.set_cons_succ]
          refine' free_sole ?_ ?_ (fun K hK => ?_)
          rotate_left 1
          · simp only [List.getElem?_toArray, List.getElem?_cons_zero, List.getElem?_cons_succ]; exact rfl
          · exact rfl
          unfold Oper.wp execOp
          go_simp
          refine hK _ _ ?_
          clear hK K
          refine' free_sole ?_ ?_ (fun K hK => ?_)
          rotate_left 1
          · simp only [List.getElem?_toArray, List.getElem?_cons_zero, List.getElem?_cons_succ]; exact rfl
          · exact rfl
          go_simp
          refine (Hp4.out).mono ?_
          rintro e wm ⟨gs, rfl, hy, hst⟩
          refine hK _ _ ?_
          obtain ⟨kg, sg, ng, ag, leng, capg, rfl⟩ := hy.lit
          have Hg := Lib.hid (And.intro hy hst)
          clear hy hst
          clear hK K
          try simp only [Act.put, List.setIfInBounds_toArray, List.set_cons_zero, List.set_cons_succ]
          refine' free_sole ?_ ?_ (fun K hK => ?_)
          rotate_left 1
          · simp only [List.getElem?_toArray, List.getElem?_cons_zero, List.getElem?_cons_succ]; exact rfl
          · exact rfl
          refine wp_store_core _ _ rfl (w.heap.size + 1) _ #[.int .i64 kg, .int .u64 (word sg 0), .int .u64 (word sg 1), .int .u64 (word sg 2), .int .u64 (word sg 3), .int .i64 ng, .slice ag leng capg] rfl rfl Hg.out.2.2.2.2.1 rfl rfl (by simp [Value.oneCell']) ?_
          intro w5 hs5 ho5
          refine hK _ _ ?_
          have H5 := Lib.hid (And.intro hs5 ho5)
          clear hs5 ho5
          clear hK K
          try simp only [Act.put]
          refine free_done ?_
          go_wp2_with fail
          refine bodyPost_ret (v := .agg #[.int .i64 kg, .int .u64 (word sg 0), .int .u64 (word sg 1), .int .u64 (word sg 2), .int .u64 (word sg 3), .int .i64 ng, .slice ag leng capg]) (results_core rfl _ _ (w.heap.size + 1) _ rfl H5.out.1 rfl) rfl ?_
          exact Hg.out.2.fin Hlt.out Hg.out.1 H5.out.2
end K
end Go.Proofs.YtlgpbgcheeaalaaGreatDoor
/-! The maker of a core: repetition, walked; a list of cores that grows. -/
namespace Go.Proofs.YtlgpbgcheeaalaaGreatDoor
namespace K
set_option maxRecDepth 100000
open Go.RowKit
/-- a list of cores that the call owns, in memory at B and above; what hangs on its elements is not in its own block -/
def RowG (B : Nat) (w : World) (v : Value) (acc : List (Cr × List Value)) : Prop :=
  w.ownsRow B 30 7 v acc.length (acc.flatMap (·.2)) ∧ (∀ z ∈ acc, CrIn (fun b => fromB B b && decide (v.ownBlock ≠ some b)) w z.1 z.2) ∧ (acc = [] → v = .slice none 0 0)
theorem rowG_iff {B b : Nat} {v : Value} : (fromB B b && decide (v.ownBlock ≠ some b)) = true ↔ B ≤ b ∧ v.ownBlock ≠ some b := by
  unfold fromB
  simp
theorem RowG.nil (B : Nat) (w : World) : RowG B w (.slice none 0 0) [] := ⟨⟨rfl, .inl ⟨rfl, rfl⟩⟩, (fun z hz => by cases hz), fun _ => rfl⟩
theorem RowG.row {B : Nat} {w : World} {v : Value} {acc : List (Cr × List Value)} (h : RowG B w v acc) (hne : acc ≠ []) : RowIn (fromB B) w v (acc.map (·.1)) := by
  have h' : (veil (fromB B) w).ownsRow B 30 7 v acc.length (acc.flatMap (·.2)) := by
    refine ⟨h.1.1, ?_⟩
    rcases h.1.2 with h2 | ⟨g, cap, cur, e, hb, hg, rest⟩
    · exact .inl h2
    · exact .inr ⟨g, cap, cur, e, hb, (veil_block (fromB_yes hb)).trans hg, rest⟩
  obtain ⟨g, cap, e, h1, h2, h3, h4, h5⟩ := coresAt_owns (w := veil (fromB B) w) acc (fun z hz => (h.2.1 z hz).mono (q := fromB B) (Nat.le_refl _) fun k hk _ => ⟨by have := rowG_iff.1 hk; exact fromB_yes this.1, rfl⟩) rfl (List.length_pos_iff.mpr hne) h'
  rw [veil_size] at h2
  exact .inr ⟨g, cap, by rw [List.length_map]; exact e, by rw [List.length_map]; exact h3, by rw [List.length_map]; exact h4, h2, h5⟩
/-- a list that grows, beside a node's box and the result's box -/
def RepSt (w : World) (R : Nat) (ns : Array Value) (W : World) (v : Value) (acc : List (Cr × List Value)) (sz : Nat) : Prop :=
  RowG (w.heap.size + 2) W v acc ∧ Var W R (.int .i64 (sz : Int)) 86 ∧ But R w W ∧ CoreIn W (w.heap.size + 1) #[.int .i64 0, .int .u64 0, .int .u64 0, .int .u64 0, .int .u64 0, .int .i64 0, .slice none 0 0] ∧ NodeIn W w.heap.size ns ∧ w.heap.size + 2 ≤ W.heap.size
theorem RepSt.call {w W W' : World} {R sz sz' : Nat} {ns : Array Value} {v : Value} {acc : List (Cr × List Value)} (h : RepSt w R ns W v acc sz) (hR : R < w.heap.size) (hb : But R W W') (hv : Var W' R (.int .i64 (sz' : Int)) 86) : RepSt w R ns W' v acc sz' :=
  ⟨⟨owns_but h.1.1 hb (by omega), (fun z hz => (h.1.2.1 z hz).step hb fun k h1 _ => ⟨h1, by have := (rowG_iff.1 h1).1; omega⟩), h.1.2.2⟩, hv, h.2.2.1.trans hb, core_but hb h.2.2.2.1 (by omega), (hb.block _ (lt_of_block h.2.2.2.2.1) (by omega)).trans h.2.2.2.2.1, Nat.le_trans h.2.2.2.2.2 hb.size⟩
theorem RepSt.later {w W W' : World} {R sz : Nat} {ns : Array Value} {v : Value} {acc : List (Cr × List Value)} (h : RepSt w R ns W v acc sz) (hR : R < w.heap.size) (hb : Below W.heap.size W W') : RepSt w R ns W' v acc sz :=
  h.call hR (But.of_below hb) (h.2.1.below hb h.2.1.lt)
theorem owns_base {w : World} {B B' n : Nat} {v : Value} {xs : List Value} (h : w.ownsRow B 30 7 v n xs) (hB : B' ≤ B) : w.ownsRow B' 30 7 v n xs := by
  refine ⟨h.1, ?_⟩
  rcases h.2 with h2 | ⟨g, cap, cur, e, hb, rest⟩
  · exact .inl h2
  · exact .inr ⟨g, cap, cur, e, Nat.le_trans hB hb, rest⟩
/-- what an append leaves -/
theorem RepSt.grow {w W W' : World} {R sz : Nat} {ns : Array Value} {v v' : Value} {acc : List (Cr × List Value)} {y : Cr} {cs : List Value} {q : Nat → Bool} (h : RepSt w R ns W v acc sz) (hR : R < w.heap.size) (hy : CrIn q W y cs)
    (hq : ∀ k, q k = true → k < W.heap.size → w.heap.size + 2 ≤ k ∧ v.ownBlock ≠ some k) (hown : W'.ownsRow (w.heap.size + 2) 30 7 v' (acc.length + 1) (acc.flatMap (·.2) ++ cs)) (hg : W.grownBy W' v.ownBlock)
    (hf : v'.ownBlock = v.ownBlock ∨ ∃ g', v'.ownBlock = some g' ∧ W.heap.size ≤ g') : RepSt w R ns W' v' (acc ++ [(y, cs)]) sz := by
  have hkeep : ∀ k, k < W.heap.size → v.ownBlock ≠ some k → W'.heap[k]? = W.heap[k]? := fun k hk hne => hg.block k hk fun e => hne e.symm
  have hlow : ∀ k, k < w.heap.size + 2 → v.ownBlock ≠ some k := fun k hk e => by have := (h.1.1.lt k e).1; omega
  have hfar : ∀ k, k < W.heap.size → v.ownBlock ≠ some k → v'.ownBlock ≠ some k := fun k hk hne e => by
    rcases hf with hf | ⟨g', hf, hl⟩
    · exact hne (hf ▸ e)
    · rw [hf] at e; injection e with e; omega
  have hb := h.2.2.2.2.2
  refine ⟨⟨?_, fun z hz => ?_, fun e => by simp at e⟩, (hkeep R (by omega) (hlow R (by omega))).trans h.2.1, ?_, (hkeep _ (by omega) (hlow _ (by omega))).trans h.2.2.2.1, (hkeep _ (by omega) (hlow _ (by omega))).trans h.2.2.2.2.1, Nat.le_trans hb hg.size⟩
  · rw [List.length_append, List.flatMap_append]
    simpa using hown
  · rcases List.mem_append.1 hz with hz | hz
    · exact (h.1.2.1 z hz).mono hg.size fun k h1 h2 => by
        have h3 := rowG_iff.1 h1
        exact ⟨rowG_iff.2 ⟨h3.1, hfar k h2 h3.2⟩, hkeep k h2 h3.2⟩
    · rw [List.mem_singleton] at hz
      subst hz
      exact hy.mono hg.size fun k h1 h2 => by
        have h3 := hq k h1 h2
        exact ⟨rowG_iff.2 ⟨h3.1, hfar k h2 h3.2⟩, hkeep k h2 h3.2⟩
  · exact ⟨hg.os.trans h.2.2.1.os, hg.tape.trans h.2.2.1.tape, hg.output.trans h.2.2.1.output, Nat.le_trans h.2.2.1.size hg.size, fun k hk hR' => (hkeep k (by omega) (hlow k (by omega))).trans (h.2.2.1.block k hk hR')⟩
theorem wpList_append_rep {ops : Array Oper} {rest : List Oper} {o : Oper} {a : Act} {w W : World} {Q : Exit → Act → World → Prop} (hgd : o.guard = none) (s x : Operand)
    (ho : o.op = .call { callee := .builtin .append, args := #[s, x], argTypes := #[28, 28] }) {R sz : Nat} {ns : Array Value} {v : Value} {acc : List (Cr × List Value)} (hs : a.eval s = v) (hst : RepSt w R ns W v acc sz) (hR : R < w.heap.size)
    {y : Cr} {cs : List Value} {q : Nat → Bool} (hy : CrIn q W y cs) (hq : ∀ k, q k = true → k < W.heap.size → w.heap.size + 2 ≤ k ∧ v.ownBlock ≠ some k) (b : Nat) (hx : a.eval x = .slice (some ⟨b, 0, none⟩) 1 1) (hc : Core7 W b 0 cs) (hn : acc.length < 1000000)
    (h : ∀ v' W', RepSt w R ns W' v' (acc ++ [(y, cs)]) sz → wpList Tryz.prog ops Q rest (a.put o.dst v') W') : wpList Tryz.prog ops Q (o :: rest) a W := by
  have h1 := at_cell_one hy.at
  by_cases hz : acc = []
  · have h2 := hst.1.2.2 hz
    subst hz
    subst h2
    refine wpList_append_core hgd s x ho W.heap.size _ 0 [] hs ⟨rfl, .inl ⟨rfl, rfl⟩⟩ b cs hx hc h1 (by omega) (Nat.le_refl _) fun v' W' g1 g2 => h v' W' (hst.grow hR hy hq (owns_base g1 hst.2.2.2.2.2) g2 (.inr ?_))
    rcases g1.2 with ⟨_, h0⟩ | ⟨g, cap, cur, e, hb, _⟩
    · omega
    · exact ⟨g, by rw [e]; rfl, hb⟩
  · exact wpList_append_fresh hgd s x ho (w.heap.size + 2) v acc.length _ hs hst.1.1 b cs hx hc h1 (by omega) (List.length_pos_iff.mpr hz) hst.2.2.2.2.2 fun v' W' g1 g2 g3 => h v' W' (hst.grow hR hy hq g1 g2 g3)
theorem RepSt.fresh {w W : World} {R sz : Nat} {ns : Array Value} {v : Value} {acc : List (Cr × List Value)} (h : RepSt w R ns W v acc sz) : ∀ k, fromB W.heap.size k = true → w.heap.size + 2 ≤ k ∧ v.ownBlock ≠ some k := fun k hk => by
  have h1 := fromB_ge hk
  have h2 := h.2.2.2.2.2
  exact ⟨by omega, fun e => by have := (h.1.1.lt k e).2; omega⟩
theorem alloc_below (w : World) (o : Obj) : Below w.heap.size w (w.alloc o) := (Below.refl _ _).alloc (Nat.le_refl _) _
theorem again_max {D : Nat} {f : Mk} (h : Small D f) (first : Bool) (sz : Nat) (hm : max sz (2000 + D) ≤ 20000000) : (againM f first sz).2 ≤ 20000001 := by
  have := again_small h first sz
  omega
set_option maxHeartbeats 8000000 in
theorem repetition_walk {W0 : World} {R : Nat} {f : Mk} {k : Int} {s : BitVec 256} {lo hi n : Int} {a : Option Addr} {len cap : Nat}
    (hN : NodeOk W0 R [.int .i64 k, .int .u64 (word s 0), .int .u64 (word s 1), .int .u64 (word s 2), .int .u64 (word s 3), .int .i64 lo, .int .i64 hi, .int .i64 n, .slice a len cap] f) (hR : W0.heap.size ≤ R) {D : Nat} (hs : Small D f) (w : World) (sz : Nat) (lw up : Int) (hb : Below W0.heap.size W0 w) (hv : Var w R (.int .i64 (sz : Int)) 86)
    (h0 : 0 ≤ lw) (h1 : lw ≤ 255) (h2 : up ≤ 255) (h3 : up = -1 ∨ lw ≤ up) (hm : max sz (2000 + D) ≤ 10000000) :
    Calls Tryz.prog 68 #[.pointer (some ⟨R, 0, none⟩), .agg #[.int .i64 k, .int .u64 (word s 0), .int .u64 (word s 1), .int .u64 (word s 2), .int .u64 (word s 3), .int .i64 lo, .int .i64 hi, .int .i64 n, .slice a len cap], .int .i64 lw, .int .i64 up] w
      (MkPost R (fromB w.heap.size) w (repM f lw up sz)) := by
  have hlt := hv.lt
  obtain ⟨W1, hW1⟩ : ∃ W1, W1 = (w.alloc (.cells #[.int .i64 k, .int .u64 (word s 0), .int .u64 (word s 1), .int .u64 (word s 2), .int .u64 (word s 3), .int .i64 lo, .int .i64 hi, .int .i64 n, .slice a len cap] 39)).alloc (.cells #[.int .i64 0, .int .u64 0, .int .u64 0, .int .u64 0, .int .u64 0, .int .i64 0, .slice none 0 0] 30) := ⟨_, rfl⟩
  obtain ⟨hal, hs1, hbx, hres⟩ := boxed_core w _ _ hW1
  have Hlt := Lib.hid hlt
  have Hs := Lib.hid hs
  have Hb := Lib.hid (And.intro hb hR)
  have HN := Lib.hid hN
  have Hm := Lib.hid hm
  have H1 := Lib.hid (And.intro hal (And.intro hs1 (And.intro hbx (And.intro hres (hv.below hal hlt)))))
  have hszl : sz ≤ 10000000 := by omega
  clear hal hs1 hbx hres hN hb hv hlt hR hs hm
  by_cases hup : up = 0
  · rw [show repM f lw up sz = (leafC 1, sz + 1) from by unfold repM; rw [if_pos hup]]
    have hlf := leaf_part (q := fromB W1.heap.size) (k := 1) H1.out.2.2.2.2 (fromB_no (by have := H1.out.2.1; have := Hlt.out; omega)) rfl (by omega)
    have Hlf := Lib.hid hlf
    clear hlf h0 h1 h2 h3
    subst hup
    go_enter Tryz.func68, Tryz.ntmps68
    go_upto_region 1 with fail
    rw [← hW1]
    clear hW1
    go_wp2_with (first
      | (go_at_call 65; refine Hlf.out.mono ?_; rintro e w2 ⟨cs, rfl, hy, hv', hb'⟩; obtain ⟨kq, sq, nq, aq, lenq, capq, rfl⟩ := hy.lit; have H2 := Lib.hid (And.intro hy (And.intro hv' hb')); have Hz2 := Lib.hid (core_but hb' H1.out.2.2.2.1 (by have := Hlt.out; omega)); clear hy hv' hb')
      | (refine wpList_store_core rfl _ _ rfl (w.heap.size + 1) _ #[.int .i64 kq, .int .u64 (word sq 0), .int .u64 (word sq 1), .int .u64 (word sq 2), .int .u64 (word sq 3), .int .i64 nq, .slice aq lenq capq] rfl rfl Hz2.out rfl rfl (by simp [Value.oneCell']) ?_; intro w5 hs5 ho5; have H5 := Lib.hid (And.intro hs5 ho5); clear hs5 ho5))
    refine bodyPost_ret (v := .agg #[.int .i64 kq, .int .u64 (word sq 0), .int .u64 (word sq 1), .int .u64 (word sq 2), .int .u64 (word sq 3), .int .i64 nq, .slice aq lenq capq]) (results_core rfl _ _ (w.heap.size + 1) _ rfl H5.out.1 rfl) rfl ?_
    exact post_tail (ds := [.int .i64 kq, .int .u64 (word sq 0), .int .u64 (word sq 1), .int .u64 (word sq 2), .int .u64 (word sq 3), .int .i64 nq, .slice aq lenq capq]) H2.out.1 (fun b hb => ⟨fromB_le hb (by have := H1.out.2.1; omega), by have := fromB_ge hb; have := H1.out.2.1; omega⟩) H2.out.2.1 ((But.of_below H1.out.1).trans H2.out.2.2) Hlt.out (by omega) H5.out.2
  · have hd : (up == 0) = false := by simpa using hup
    obtain ⟨fst2, hf2⟩ : ∃ b, (lw == 0) = b := ⟨_, rfl⟩
    have hf2' := hf2
    have hrp : repM f lw up sz = joinM 3 (bothM f lw up sz) := by unfold repM; rw [if_neg hup]
    have HR := Lib.hid (And.intro hrp (And.intro hf2' h3))
    have Hup := Lib.hid hup
    clear hrp hf2' hup h3
    go_enter Tryz.func68, Tryz.ntmps68
    go_upto_region 1 with fail
    rw [← hW1]
    clear hW1
    go_wp2_with fail
    go_loopw [9, 16] (fun v i wr => ∃ (v0 : Value) (j : Nat) (J : Int) (acc : List (Cr × List Value)), v0 = v ∧ i = .int .i64 J ∧ Hid (J = (j : Int) ∧ j ≤ lw.toNat ∧ acc.map (·.1) = (copiesM f j sz).1) ∧ Hid (RepSt w R #[.int .i64 k, .int .u64 (word s 0), .int .u64 (word s 1), .int .u64 (word s 2), .int .u64 (word s 3), .int .i64 lo, .int .i64 hi, .int .i64 n, .slice a len cap] wr v acc (copiesM f j sz).2)) (fun _ i _ => (lw - intOf i).toNat)
    case atStart =>
      exact ⟨_, 0, 0, [], rfl, rfl, ⟨rfl, Nat.zero_le _, rfl⟩, RowG.nil _ _, H1.out.2.2.2.2, But.of_below H1.out.1, H1.out.2.2.2.1, H1.out.2.2.1, by rw [H1.out.2.1]; exact Nat.le_refl _⟩
    case round =>
      obtain ⟨v, j, J, acc, hv, rfl, hJ, hst⟩ := hrel
      subst hv
      have hj0 : 0 ≤ J := by have := hJ.out; omega
      have hj1 : J ≤ 255 := by have := hJ.out; omega
      have hjn : j ≤ 255 := by have := hJ.out; omega
      have hlen : acc.length = j := by
        have h := congrArg List.length hJ.out.2.2
        rw [List.length_map, copiesM_length] at h; exact h
      have hcs := copies_small Hs.out j sz
      have hszj : (copiesM f j sz).2 ≤ 10000300 := by have := Hm.out; omega
      have hmj : max (copiesM f j sz).2 (2000 + D) ≤ 10000300 := by have := Hm.out; omega
      have Hlen := Lib.hid hlen
      have H9r := Lib.hid (node9_in (cs := [.int .i64 k, .int .u64 (word s 0), .int .u64 (word s 1), .int .u64 (word s 2), .int .u64 (word s 3), .int .i64 lo, .int .i64 hi, .int .i64 n, .slice a len cap]) hst.out.2.2.2.2.1 rfl)
      have Hbr := Lib.hid (hst.out.2.2.1.below Hb.out.1 Hb.out.2 Hb.out.1.size)
      have Hmj := Lib.hid (And.intro hmj hjn)
      clear hlen hcs hmj hjn
      by_cases hjl : J < lw
      · have hdl : decide (J < lw) = true := decide_eq_true hjl
        obtain ⟨fst, hfst⟩ : ∃ b, (J == 0) = b := ⟨_, rfl⟩
        have hfj : (j == 0) = fst := by
          rw [← hfst, Bool.eq_iff_iff]
          have := hJ.out.1
          simp; omega
        have hcopy := copy_walk HN.out fst wr (copiesM f j sz).2 Hbr.out hst.out.2.1 (by omega) (by have := Hs.out (copiesM f j sz).2; have := Hmj.out.1; omega)
        have Hcopy := Lib.hid hcopy
        have Hfj := Lib.hid hfj
        clear hcopy hfj
        go_wp2_with (first
          | (refine wpList_load_node rfl _ rfl w.heap.size 0 _ rfl H9r.out ?_)
          | (go_at_call 96; refine Hcopy.out.mono ?_; rintro e wn ⟨cn, rfl, hy, hv', hb'⟩; obtain ⟨kn, sn, nn, an, lenn, capn, rfl⟩ := hy.lit; have Hsn := Lib.hid (hst.out.call Hlt.out hb' hv'); have Hyn := Lib.hid hy; have Hzn := Lib.hid hb'.size; clear hy hv' hb')
          | (refine wpList_append_rep rfl _ _ rfl rfl (Hsn.out.later Hlt.out (alloc_below wn _)) Hlt.out (y := _) (cs := [.int .i64 kn, .int .u64 (word sn 0), .int .u64 (word sn 1), .int .u64 (word sn 2), .int .u64 (word sn 3), .int .i64 nn, .slice an lenn capn]) (Hyn.out.later (alloc_below wn _) (fun _ h1 _ => h1)) (fun k h1 _ => hst.out.fresh k h1) wn.heap.size rfl (core7_in (World.alloc_heap_new wn _) rfl) (by have := Hmj.out.2; have := Hlen.out; omega) ?_; intro v' wa hsta; have Hsta := Lib.hid hsta; clear hsta))
        go_roundw
        case rel =>
          have hc : copiesM f (j + 1) sz = ((copiesM f j sz).1 ++ [(againM f fst (copiesM f j sz).2).1], (againM f fst (copiesM f j sz).2).2) := by
            rw [← Hfj.out]; rfl
          refine ⟨v', j + 1, J + 1, acc ++ [((againM f fst (copiesM f j sz).2).1, [.int .i64 kn, .int .u64 (word sn 0), .int .u64 (word sn 1), .int .u64 (word sn 2), .int .u64 (word sn 3), .int .i64 nn, .slice an lenn capn])], rfl, by go_num, ⟨by have := hJ.out; omega, by have := hJ.out; omega, ?_⟩, ?_⟩
          · rw [hc, List.map_append, hJ.out.2.2]; rfl
          · show RepSt _ _ _ _ _ _ _
            rw [hc]; exact Hsta.out
        case measure => (simp [intOf] <;> omega)
      · have hdl : decide (J < lw) = false := decide_eq_false hjl
        have hjt : lw.toNat = j := by have := hJ.out; omega
        have hend : ∀ (acc2 : List (Cr × List Value)) (v2 : Value) (W2 : World) (sz2 : Nat), RepSt w R #[.int .i64 k, .int .u64 (word s 0), .int .u64 (word s 1), .int .u64 (word s 2), .int .u64 (word s 3), .int .i64 lo, .int .i64 hi, .int .i64 n, .slice a len cap] W2 v2 acc2 sz2 → (acc2.map (·.1), sz2) = bothM f lw up sz →
            Calls Tryz.prog 66 #[.pointer (some ⟨R, 0, none⟩), .int .i64 3, v2] W2 (MkPost R (fromB (w.heap.size + 2)) W2 (repM f lw up sz)) := fun acc2 v2 W2 sz2 hst2 he => by
          have hne : acc2 ≠ [] := fun hz => by
            have hb := congrArg Prod.fst he
            rw [hz] at hb
            have hl := congrArg List.length hb
            have hl2 := copiesM_length f lw.toNat sz
            unfold bothM restM at hl
            simp only [List.map_nil, List.length_nil, List.length_append, hl2] at hl
            have hup' := Hup.out
            rcases HR.out.2.2 with h | h
            · rw [if_pos h] at hl; simp at hl
            · by_cases hlu : lw < up
              · rw [if_neg (by omega), if_pos hlu] at hl; simp at hl
              · omega
          have hbs := both_small Hs.out (lo := lw) (hi := up) h0 h2 h1 sz
          rw [← he] at hbs
          have hm2 := Hm.out
          have hj := join_walk (k := 3) hst2.2.1 (fromB_no (by have := Hlt.out; omega)) (hst2.1.row hne) (by simpa using hne) rfl (by have := hbs.1; simp only at this; omega) (by have := hbs.2; simp only at this; omega)
          rw [he] at hj
          rw [HR.out.1]
          exact hj.mono fun _ _ hp => hp.wide (But.refl _ _) fun b hb => by
            rcases Bool.or_eq_true_iff.1 hb with h | h
            · exact h
            · exact fromB_yes (by have := of_decide_eq_true h; have := hst2.2.2.2.2.2; omega)
        have Hend := Lib.hid hend
        have Hjt := Lib.hid hjt
        clear hend hjt
        have hag := again_max Hs.out fst2 (copiesM f j sz).2 (by have := Hmj.out.1; omega)
        by_cases hu1 : up = -1
        · have hcopy := copy_walk HN.out fst2 wr (copiesM f j sz).2 Hbr.out hst.out.2.1 (by omega) (by have := Hs.out (copiesM f j sz).2; have := Hmj.out.1; omega)
          have he : ∀ cs : List Value, ((acc ++ [((.mk 5 0 0 [(againM f fst2 (copiesM f j sz).2).1] : Cr), cs)]).map (·.1), (againM f fst2 (copiesM f j sz).2).2 + 1) = bothM f lw up sz := fun cs => by
            unfold bothM restM
            rw [if_pos hu1, Hjt.out, HR.out.2.1, List.map_append, hJ.out.2.2]; rfl
          have hlen2 : acc.length ≤ 255 := by have := Hmj.out.2; have := Hlen.out; omega
          have Hcopy := Lib.hid hcopy
          have He := Lib.hid he
          have Hlen2 := Lib.hid hlen2
          clear hcopy he hlen2
          subst hu1
          go_wp2_with (first
            | (refine wpList_load_node rfl _ rfl w.heap.size 0 _ rfl H9r.out ?_)
            | (go_at_call 96; refine Hcopy.out.mono ?_; rintro e wn ⟨cn, rfl, hy, hv', hb'⟩; obtain ⟨kn, sn, nn, an, lenn, capn, rfl⟩ := hy.lit; have Hsn := Lib.hid (hst.out.call Hlt.out hb' hv'); have Hyn := Lib.hid hy; have Hzn := Lib.hid hb'.size; clear hy hv' hb')
            | (go_at_call 65; refine (one_part (q := fromB wr.heap.size) (k := 5) Hyn.out Hsn.out.2.1 (fromB_no (by have := Hlt.out; have := hst.out.2.2.2.2.2; omega)) (fromB_yes Hzn.out) rfl (by omega)).mono ?_; rintro e wm ⟨cm, rfl, hy, hv', hb'⟩; obtain ⟨km, sm, nm, am, lenm, capm, rfl⟩ := hy.lit; have Hsm := Lib.hid ((Hsn.out.later Hlt.out (alloc_below wn _)).call Hlt.out hb' hv'); have Hym := Lib.hid hy; have Hzm := Lib.hid hb'.size; clear hy hv' hb')
            | (refine wpList_append_rep rfl _ _ rfl rfl (Hsm.out.later Hlt.out (alloc_below wm _)) Hlt.out (y := _) (cs := [.int .i64 km, .int .u64 (word sm 0), .int .u64 (word sm 1), .int .u64 (word sm 2), .int .u64 (word sm 3), .int .i64 nm, .slice am lenm capm]) (Hym.out.later (alloc_below wm _) (fun _ h1 _ => h1)) (fun k h1 _ => hst.out.fresh k h1) wm.heap.size rfl (core7_in (World.alloc_heap_new wm _) rfl) (by have := Hlen2.out; omega) ?_; intro v' wa hsta; have Hsta := Lib.hid hsta; clear hsta)
            | (go_at_call 66; refine (Hend.out _ _ _ _ Hsta.out (He.out _)).mono ?_; rintro e wj ⟨cj, rfl, hy, hv', hb'⟩; obtain ⟨kj, sj, nj, aj, lenj, capj, rfl⟩ := hy.lit; have Hj := Lib.hid (And.intro hy (And.intro hv' ((Hsta.out).2.2.1.trans hb'))); have Hzj := Lib.hid (core_but hb' (Hsta.out).2.2.2.1 (by have := Hlt.out; omega)); clear hy hv' hb')
            | (refine wpList_store_core rfl _ _ rfl (w.heap.size + 1) _ #[.int .i64 kj, .int .u64 (word sj 0), .int .u64 (word sj 1), .int .u64 (word sj 2), .int .u64 (word sj 3), .int .i64 nj, .slice aj lenj capj] rfl rfl Hzj.out rfl rfl (by simp [Value.oneCell']) ?_; intro w5 hs5 ho5; have H5 := Lib.hid (And.intro hs5 ho5); clear hs5 ho5))
          refine bodyPost_ret (v := .agg #[.int .i64 kj, .int .u64 (word sj 0), .int .u64 (word sj 1), .int .u64 (word sj 2), .int .u64 (word sj 3), .int .i64 nj, .slice aj lenj capj]) (results_core rfl _ _ (w.heap.size + 1) _ rfl H5.out.1 rfl) rfl ?_
          exact post_tail (x := (repM f lw (-1) sz).1) (sz := (repM f lw (-1) sz).2) (ds := [.int .i64 kj, .int .u64 (word sj 0), .int .u64 (word sj 1), .int .u64 (word sj 2), .int .u64 (word sj 3), .int .i64 nj, .slice aj lenj capj]) Hj.out.1 (fun b hb => ⟨fromB_le hb (by omega), by have := fromB_ge hb; omega⟩) Hj.out.2.1 Hj.out.2.2 Hlt.out (by omega) H5.out.2
        · have hd9 : (up == -1) = false := by simpa using hu1
          by_cases hul : lw < up
          · have hg1 : decide (up > lw) = true := by simp; omega
            have hg2 : decide (lw < up) = true := by simp; omega
            have hz0 : 0 ≤ up - lw := by omega
            have hz1 : up - lw ≤ 255 := by omega
            have hopt := optional_walk HN.out Hb.out.2 Hs.out ((up - lw).toNat - 1) fst2 wr (copiesM f j sz).2 (up - lw) Hbr.out hst.out.2.1 (by omega) (by have := Hmj.out.1; omega) (by omega)
            have he : ∀ cs : List Value, ((acc ++ [((optM f ((up - lw).toNat - 1) fst2 (copiesM f j sz).2).1, cs)]).map (·.1), (optM f ((up - lw).toNat - 1) fst2 (copiesM f j sz).2).2) = bothM f lw up sz := fun cs => by
              unfold bothM restM
              rw [if_neg hu1, if_pos hul, Hjt.out, HR.out.2.1, List.map_append, hJ.out.2.2]; rfl
            have hlen2 : acc.length ≤ 255 := by have := Hmj.out.2; have := Hlen.out; omega
            have Hopt := Lib.hid hopt
            have He := Lib.hid he
            have Hlen2 := Lib.hid hlen2
            clear hopt he hlen2 hu1 hul
            go_wp2_with (first
              | (refine wpList_load_node rfl _ rfl w.heap.size 0 _ rfl H9r.out ?_)
              | (go_at_call 97; refine Hopt.out.mono ?_; rintro e wm ⟨cm, rfl, hy, hv', hb'⟩; obtain ⟨km, sm, nm, am, lenm, capm, rfl⟩ := hy.lit; have Hsm := Lib.hid (hst.out.call Hlt.out hb' hv'); have Hym := Lib.hid hy; have Hzm := Lib.hid hb'.size; clear hy hv' hb')
              | (refine wpList_append_rep rfl _ _ rfl rfl (Hsm.out.later Hlt.out (alloc_below wm _)) Hlt.out (y := _) (cs := [.int .i64 km, .int .u64 (word sm 0), .int .u64 (word sm 1), .int .u64 (word sm 2), .int .u64 (word sm 3), .int .i64 nm, .slice am lenm capm]) (Hym.out.later (alloc_below wm _) (fun _ h1 _ => h1)) (fun k h1 _ => hst.out.fresh k h1) wm.heap.size rfl (core7_in (World.alloc_heap_new wm _) rfl) (by have := Hlen2.out; omega) ?_; intro v' wa hsta; have Hsta := Lib.hid hsta; clear hsta)
              | (go_at_call 66; refine (Hend.out _ _ _ _ Hsta.out (He.out _)).mono ?_; rintro e wj ⟨cj, rfl, hy, hv', hb'⟩; obtain ⟨kj, sj, nj, aj, lenj, capj, rfl⟩ := hy.lit; have Hj := Lib.hid (And.intro hy (And.intro hv' ((Hsta.out).2.2.1.trans hb'))); have Hzj := Lib.hid (core_but hb' (Hsta.out).2.2.2.1 (by have := Hlt.out; omega)); clear hy hv' hb')
              | (refine wpList_store_core rfl _ _ rfl (w.heap.size + 1) _ #[.int .i64 kj, .int .u64 (word sj 0), .int .u64 (word sj 1), .int .u64 (word sj 2), .int .u64 (word sj 3), .int .i64 nj, .slice aj lenj capj] rfl rfl Hzj.out rfl rfl (by simp [Value.oneCell']) ?_; intro w5 hs5 ho5; have H5 := Lib.hid (And.intro hs5 ho5); clear hs5 ho5))
            refine bodyPost_ret (v := .agg #[.int .i64 kj, .int .u64 (word sj 0), .int .u64 (word sj 1), .int .u64 (word sj 2), .int .u64 (word sj 3), .int .i64 nj, .slice aj lenj capj]) (results_core rfl _ _ (w.heap.size + 1) _ rfl H5.out.1 rfl) rfl ?_
            exact post_tail (x := (repM f lw up sz).1) (sz := (repM f lw up sz).2) (ds := [.int .i64 kj, .int .u64 (word sj 0), .int .u64 (word sj 1), .int .u64 (word sj 2), .int .u64 (word sj 3), .int .i64 nj, .slice aj lenj capj]) Hj.out.1 (fun b hb => ⟨fromB_le hb (by omega), by have := fromB_ge hb; omega⟩) Hj.out.2.1 Hj.out.2.2 Hlt.out (by omega) H5.out.2
          · have hg1 : decide (up > lw) = false := by simp; omega
            have hg2 : decide (lw < up) = false := by simp; omega
            have he : (acc.map (·.1), (copiesM f j sz).2) = bothM f lw up sz := by
              unfold bothM restM
              rw [if_neg hu1, if_neg hul, Hjt.out, List.append_nil, hJ.out.2.2]
            have He := Lib.hid he
            clear he hu1 hul
            go_wp2_with (first
              | (go_at_call 66; refine (Hend.out _ _ _ _ hst.out He.out).mono ?_; rintro e wj ⟨cj, rfl, hy, hv', hb'⟩; obtain ⟨kj, sj, nj, aj, lenj, capj, rfl⟩ := hy.lit; have Hj := Lib.hid (And.intro hy (And.intro hv' ((hst.out).2.2.1.trans hb'))); have Hzj := Lib.hid (core_but hb' (hst.out).2.2.2.1 (by have := Hlt.out; omega)); clear hy hv' hb')
              | (refine wpList_store_core rfl _ _ rfl (w.heap.size + 1) _ #[.int .i64 kj, .int .u64 (word sj 0), .int .u64 (word sj 1), .int .u64 (word sj 2), .int .u64 (word sj 3), .int .i64 nj, .slice aj lenj capj] rfl rfl Hzj.out rfl rfl (by simp [Value.oneCell']) ?_; intro w5 hs5 ho5; have H5 := Lib.hid (And.intro hs5 ho5); clear hs5 ho5))
            refine bodyPost_ret (v := .agg #[.int .i64 kj, .int .u64 (word sj 0), .int .u64 (word sj 1), .int .u64 (word sj 2), .int .u64 (word sj 3), .int .i64 nj, .slice aj lenj capj]) (results_core rfl _ _ (w.heap.size + 1) _ rfl H5.out.1 rfl) rfl ?_
            exact post_tail (x := (repM f lw up sz).1) (sz := (repM f lw up sz).2) (ds := [.int .i64 kj, .int .u64 (word sj 0), .int .u64 (word sj 1), .int .u64 (word sj 2), .int .u64 (word sj 3), .int .i64 nj, .slice aj lenj capj]) Hj.out.1 (fun b hb => ⟨fromB_le hb (by omega), by have := fromB_ge hb; omega⟩) Hj.out.2.1 Hj.out.2.2 Hlt.out (by omega) H5.out.2

end K
end Go.Proofs.YtlgpbgcheeaalaaGreatDoor
