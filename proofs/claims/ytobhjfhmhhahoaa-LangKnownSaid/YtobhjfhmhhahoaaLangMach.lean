/- The plain mathematics of lang's machine: its states, its paths, what it reads is what the core matches. -/
import Derived.Test.YtobhjfhmhhahoaaLangMath
namespace Go.Proofs.Ytobhjfhmhhahoaa
namespace K
set_option maxRecDepth 100000
open Go.RowKit

/-- a state: whether it forks, its set, where it goes on -/
structure St where
  fork : Bool
  set : BitVec 256
  next : Nat
  other : Nat
/-! building -/
def bldOf (k : Int) (s : BitVec 256) (f g : List St → Nat → List St × Nat) (S : List St) (nx : Nat) : List St × Nat :=
  if k = 1 then (S, nx) else if k = 2 then (S ++ [⟨false, s, nx, 0⟩], S.length)
  else if k = 3 then f (g S nx).1 (g S nx).2
  else if k = 4 then ((g (f S nx).1 nx).1 ++ [⟨true, 0, (f S nx).2, (g (f S nx).1 nx).2⟩], (g (f S nx).1 nx).1.length)
  else if k = 5 then ((f (S ++ [⟨true, 0, 0, nx⟩]) S.length).1.set S.length ⟨true, 0, (f (S ++ [⟨true, 0, 0, nx⟩]) S.length).2, nx⟩, S.length)
  else if k = 6 ∨ k = 7 then f S nx else (S ++ [⟨false, 0, 0, 0⟩], S.length)
def noBld : List St → Nat → List St × Nat := fun S nx => (S, nx)
mutual
def Cr.bld : Cr → List St → Nat → List St × Nat
  | .mk k s _ l => bldOf k s ((blds l).getD 0 noBld) ((blds l).getD 1 noBld)
def blds : List Cr → List (List St → Nat → List St × Nat)
  | [] => []
  | x :: l => x.bld :: blds l
end
theorem bld_mk (k : Int) (s : BitVec 256) (n : Int) (l : List Cr) : (Cr.mk k s n l).bld = bldOf k s ((blds l).getD 0 noBld) ((blds l).getD 1 noBld) := by rw [Cr.bld]
theorem blds_one (a : Cr) : (blds [a]).getD 0 noBld = a.bld := by rw [blds]; rfl
theorem blds_two (a b : Cr) : (blds [a, b]).getD 0 noBld = a.bld ∧ (blds [a, b]).getD 1 noBld = b.bld := by rw [blds, blds]; exact ⟨rfl, rfl⟩
theorem bld_no (S : List St) (nx : Nat) : (Cr.mk 0 0 0 []).bld S nx = (S ++ [⟨false, 0, 0, 0⟩], S.length) := by rw [bld_mk]; simp [bldOf]
theorem bld_em (S : List St) (nx : Nat) : (Cr.mk 1 0 0 []).bld S nx = (S, nx) := by rw [bld_mk]; simp [bldOf]
theorem bld_st (s : BitVec 256) (S : List St) (nx : Nat) : (Cr.mk 2 s 0 []).bld S nx = (S ++ [⟨false, s, nx, 0⟩], S.length) := by rw [bld_mk]; simp [bldOf]
theorem bld_cat (a b : Cr) (S : List St) (nx : Nat) : (Cr.mk 3 0 0 [a, b]).bld S nx = a.bld (b.bld S nx).1 (b.bld S nx).2 := by rw [bld_mk, (blds_two a b).1, (blds_two a b).2]; simp [bldOf]
theorem bld_alt (a b : Cr) (S : List St) (nx : Nat) : (Cr.mk 4 0 0 [a, b]).bld S nx = ((b.bld (a.bld S nx).1 nx).1 ++ [⟨true, 0, (a.bld S nx).2, (b.bld (a.bld S nx).1 nx).2⟩], (b.bld (a.bld S nx).1 nx).1.length) := by rw [bld_mk, (blds_two a b).1, (blds_two a b).2]; simp [bldOf]
theorem bld_star (a : Cr) (S : List St) (nx : Nat) : (Cr.mk 5 0 0 [a]).bld S nx = ((a.bld (S ++ [⟨true, 0, 0, nx⟩]) S.length).1.set S.length ⟨true, 0, (a.bld (S ++ [⟨true, 0, 0, nx⟩]) S.length).2, nx⟩, S.length) := by rw [bld_mk, blds_one]; simp [bldOf]
theorem bld_grp (n : Int) (a : Cr) (S : List St) (nx : Nat) : (Cr.mk 6 0 n [a]).bld S nx = a.bld S nx := by rw [bld_mk, blds_one]; simp [bldOf]
theorem bld_ren (a : Cr) (S : List St) (nx : Nat) : (Cr.mk 7 0 0 [a]).bld S nx = a.bld S nx := by rw [bld_mk, blds_one]; simp [bldOf]
/-- all states lead to states, forks read nothing -/
def StWf (n : Nat) (S : List St) : Prop := ∀ t ∈ S, t.next < n ∧ t.other < n ∧ (t.fork = true → t.set = 0)
theorem StWf.mono {n m : Nat} {S : List St} (h : StWf n S) (hm : n ≤ m) : StWf m S := fun t ht => by
  obtain ⟨h1, h2, h3⟩ := h t ht
  exact ⟨by omega, by omega, h3⟩
theorem StWf.snoc {n : Nat} {S : List St} {t : St} (h : StWf n S) (h1 : t.next < n) (h2 : t.other < n) (h3 : t.fork = true → t.set = 0) : StWf n (S ++ [t]) := fun u hu => by
  rcases List.mem_append.1 hu with hu | hu
  · exact h u hu
  · rw [List.mem_singleton] at hu; subst hu; exact ⟨h1, h2, h3⟩
/-- what building leaves: it only adds, at most as many states as the core has parts -/
structure Built (x : Cr) (S : List St) (nx : Nat) (r : List St × Nat) : Prop where
  pre : S.length ≤ r.1.length
  few : r.1.length ≤ S.length + x.count
  old : ∀ i, i < S.length → r.1[i]? = S[i]?
  wf : StWf r.1.length r.1
  lt : r.2 < r.1.length
theorem built : ∀ x : Cr, x.form = true → ∀ (S : List St) (nx : Nat), nx < S.length → StWf S.length S → Built x S nx (x.bld S nx) := by
  have add : ∀ (x : Cr) (S : List St) (nx : Nat) (t : St), nx < S.length → StWf S.length S → t.next < S.length + 1 → t.other < S.length + 1 → (t.fork = true → t.set = 0) → Built x S nx (S ++ [t], S.length) := by
    intro x S nx t hn hw h1 h2 h3
    have := Cr.count_pos x
    exact ⟨by simp, by simp; omega, fun i hi => List.getElem?_append_left hi, by
      simp only [List.length_append, List.length_cons, List.length_nil]
      exact (hw.mono (by omega)).snoc h1 h2 h3, by simp⟩
  refine form_ind ?_ ?_ ?_ ?_ ?_ ?_ ?_ ?_
  · intro S nx hn hw
    rw [bld_no]
    exact add _ _ nx _ hn hw (by simp) (by simp) (fun h => by cases h)
  · intro S nx hn hw
    rw [bld_em]
    exact ⟨Nat.le_refl _, Nat.le_add_right _ _, fun _ _ => rfl, hw, hn⟩
  · intro s S nx hn hw
    rw [bld_st]
    exact add _ _ nx _ hn hw (by simp; omega) (by simp) (fun h => by cases h)
  · intro a b _ _ iha ihb S nx hn hw
    rw [bld_cat]
    have hb := ihb S nx hn hw
    have ha := iha _ _ hb.lt hb.wf
    have h1 := hb.pre; have h2 := hb.few; have h3 := ha.pre; have h4 := ha.few
    refine ⟨by omega, by rw [count_mk, counts_cons, counts_cons]; omega, fun i hi => (ha.old i (by omega)).trans (hb.old i hi), ha.wf, ha.lt⟩
  · intro a b _ _ iha ihb S nx hn hw
    rw [bld_alt]
    have ha := iha S nx hn hw
    have h1 := ha.pre; have h2 := ha.few
    have hb := ihb (a.bld S nx).1 nx (by omega) ha.wf
    have h3 := hb.pre; have h4 := hb.few
    have hlt := ha.lt
    have hlt2 := hb.lt
    refine ⟨by simp; omega, by simp only [List.length_append, List.length_cons, List.length_nil]; rw [count_mk, counts_cons, counts_cons]; omega, fun i hi => ?_, ?_, by simp⟩
    · exact (List.getElem?_append_left (by omega)).trans ((hb.old i (by omega)).trans (ha.old i hi))
    · simp only [List.length_append, List.length_cons, List.length_nil]
      exact (hb.wf.mono (by omega)).snoc (by simp; omega) (by simp; omega) (fun _ => rfl)
  · intro a _ iha S nx hn hw
    rw [bld_star]
    have hw1 : StWf (S ++ [(⟨true, 0, 0, nx⟩ : St)]).length (S ++ [⟨true, 0, 0, nx⟩]) := by
      simp only [List.length_append, List.length_cons, List.length_nil]
      exact (hw.mono (by omega)).snoc (by simp) (by simp; omega) (fun _ => rfl)
    have ha := iha (S ++ [⟨true, 0, 0, nx⟩]) S.length (by simp) hw1
    have h1 := ha.pre; have h2 := ha.few; have h3 := ha.lt
    simp only [List.length_append, List.length_cons, List.length_nil] at h1 h2
    refine ⟨by simp only [List.length_set]; omega, by simp only [List.length_set]; rw [count_mk, counts_cons]; omega, fun i hi => ?_, ?_, by simp only [List.length_set]; omega⟩
    · simp only
      rw [List.getElem?_set_ne (by omega), ha.old i (by simp; omega), List.getElem?_append_left hi]
    · simp only [List.length_set]
      intro t ht
      rcases List.mem_or_eq_of_mem_set ht with ht | rfl
      · exact ha.wf t ht
      · exact ⟨h3, by show nx < _; omega, fun _ => rfl⟩
  · intro n a _ _ _ iha S nx hn hw
    rw [bld_grp]
    have ha := iha S nx hn hw
    exact ⟨ha.pre, by have := ha.few; rw [count_mk, counts_cons]; omega, ha.old, ha.wf, ha.lt⟩
  · intro a _ iha S nx hn hw
    rw [bld_ren]
    have ha := iha S nx hn hw
    exact ⟨ha.pre, by have := ha.few; rw [count_mk, counts_cons]; omega, ha.old, ha.wf, ha.lt⟩
/-! the core stands in a machine, from a state on, before another -/
def bdOf (k : Int) (s : BitVec 256) (p q : List St → Nat → Nat → Prop) (S : List St) (nx st : Nat) : Prop :=
  if k = 1 then st = nx else if k = 2 then 0 < st ∧ S[st]? = some ⟨false, s, nx, 0⟩
  else if k = 3 then ∃ m, q S nx m ∧ p S m st
  else if k = 4 then ∃ a b, S[st]? = some ⟨true, 0, a, b⟩ ∧ p S nx a ∧ q S nx b
  else if k = 5 then ∃ a, S[st]? = some ⟨true, 0, a, nx⟩ ∧ p S st a
  else if k = 6 ∨ k = 7 then p S nx st else 0 < st ∧ S[st]? = some ⟨false, 0, 0, 0⟩
def noBd : List St → Nat → Nat → Prop := fun _ _ _ => False
mutual
def Cr.bd : Cr → List St → Nat → Nat → Prop
  | .mk k s _ l => bdOf k s ((bds l).getD 0 noBd) ((bds l).getD 1 noBd)
def bds : List Cr → List (List St → Nat → Nat → Prop)
  | [] => []
  | x :: l => x.bd :: bds l
end
theorem bd_mk (k : Int) (s : BitVec 256) (n : Int) (l : List Cr) : (Cr.mk k s n l).bd = bdOf k s ((bds l).getD 0 noBd) ((bds l).getD 1 noBd) := by rw [Cr.bd]
theorem bds_one (a : Cr) : (bds [a]).getD 0 noBd = a.bd := by rw [bds]; rfl
theorem bds_two (a b : Cr) : (bds [a, b]).getD 0 noBd = a.bd ∧ (bds [a, b]).getD 1 noBd = b.bd := by rw [bds, bds]; exact ⟨rfl, rfl⟩
theorem bd_no (S : List St) (nx st : Nat) : (Cr.mk 0 0 0 []).bd S nx st ↔ 0 < st ∧ S[st]? = some ⟨false, 0, 0, 0⟩ := by rw [bd_mk]; simp [bdOf]
theorem bd_em (S : List St) (nx st : Nat) : (Cr.mk 1 0 0 []).bd S nx st ↔ st = nx := by rw [bd_mk]; simp [bdOf]
theorem bd_st (s : BitVec 256) (S : List St) (nx st : Nat) : (Cr.mk 2 s 0 []).bd S nx st ↔ 0 < st ∧ S[st]? = some ⟨false, s, nx, 0⟩ := by rw [bd_mk]; simp [bdOf]
theorem bd_cat (a b : Cr) (S : List St) (nx st : Nat) : (Cr.mk 3 0 0 [a, b]).bd S nx st ↔ ∃ m, b.bd S nx m ∧ a.bd S m st := by rw [bd_mk, (bds_two a b).1, (bds_two a b).2]; simp [bdOf]
theorem bd_alt (a b : Cr) (S : List St) (nx st : Nat) : (Cr.mk 4 0 0 [a, b]).bd S nx st ↔ ∃ i j, S[st]? = some ⟨true, 0, i, j⟩ ∧ a.bd S nx i ∧ b.bd S nx j := by rw [bd_mk, (bds_two a b).1, (bds_two a b).2]; simp [bdOf]
theorem bd_star (a : Cr) (S : List St) (nx st : Nat) : (Cr.mk 5 0 0 [a]).bd S nx st ↔ ∃ i, S[st]? = some ⟨true, 0, i, nx⟩ ∧ a.bd S st i := by rw [bd_mk, bds_one]; simp [bdOf]
theorem bd_grp (n : Int) (a : Cr) (S : List St) (nx st : Nat) : (Cr.mk 6 0 n [a]).bd S nx st ↔ a.bd S nx st := by rw [bd_mk, bds_one]; simp [bdOf]
theorem bd_ren (a : Cr) (S : List St) (nx st : Nat) : (Cr.mk 7 0 0 [a]).bd S nx st ↔ a.bd S nx st := by rw [bd_mk, bds_one]; simp [bdOf]
/-- what is built stands there, also in any machine that has the same states where building put its own -/
theorem built_bd : ∀ x : Cr, x.form = true → ∀ (S : List St) (nx : Nat), nx < S.length → StWf S.length S → ∀ T : List St, (∀ i, S.length ≤ i → i < (x.bld S nx).1.length → T[i]? = (x.bld S nx).1[i]?) → x.bd T nx (x.bld S nx).2 := by
  refine form_ind ?_ ?_ ?_ ?_ ?_ ?_ ?_ ?_
  · intro S nx hn hw T hT
    rw [bld_no] at hT ⊢
    rw [bd_no, hT S.length (Nat.le_refl _) (by simp)]
    exact ⟨by omega, by simp⟩
  · intro S nx hn hw T hT
    rw [bld_em, bd_em]
  · intro s S nx hn hw T hT
    rw [bld_st] at hT ⊢
    rw [bd_st, hT S.length (Nat.le_refl _) (by simp)]
    exact ⟨by omega, by simp⟩
  · intro a b fa fb iha ihb S nx hn hw T hT
    rw [bld_cat] at hT ⊢
    rw [bd_cat]
    have hb := built b fb S nx hn hw
    have ha := built a fa _ _ hb.lt hb.wf
    have h1 := hb.pre; have h3 := ha.pre
    exact ⟨_, ihb S nx hn hw T (fun i hi hi2 => (hT i hi (by omega)).trans (ha.old i hi2)), iha _ _ hb.lt hb.wf T fun i hi hi2 => hT i (by omega) hi2⟩
  · intro a b fa fb iha ihb S nx hn hw T hT
    rw [bld_alt] at hT ⊢
    rw [bd_alt]
    have ha := built a fa S nx hn hw
    have h1 := ha.pre
    have hb := built b fb (a.bld S nx).1 nx (by omega) ha.wf
    have h3 := hb.pre
    simp only [List.length_append, List.length_cons, List.length_nil] at hT
    refine ⟨_, _, (hT _ (by omega) (Nat.lt_succ_self _)).trans (by simp), iha S nx hn hw T (fun i hi hi2 => ?_), ihb _ _ (by omega) ha.wf T fun i hi hi2 => ?_⟩
    · rw [hT i hi (by omega), List.getElem?_append_left (by omega), hb.old i hi2]
    · rw [hT i (by omega) (by omega), List.getElem?_append_left hi2]
  · intro a fa iha S nx hn hw T hT
    rw [bld_star] at hT ⊢
    rw [bd_star]
    have hw1 : StWf (S ++ [(⟨true, 0, 0, nx⟩ : St)]).length (S ++ [⟨true, 0, 0, nx⟩]) := by
      simp only [List.length_append, List.length_cons, List.length_nil]
      exact (hw.mono (by omega)).snoc (by simp) (by simp; omega) (fun _ => rfl)
    have ha := built a fa (S ++ [⟨true, 0, 0, nx⟩]) S.length (by simp) hw1
    have h1 := ha.pre
    simp only [List.length_append, List.length_cons, List.length_nil] at h1
    simp only [List.length_set] at hT
    refine ⟨_, (hT S.length (Nat.le_refl _) (by omega)).trans (List.getElem?_set_self (by omega)), iha _ _ (by simp) hw1 T fun i hi hi2 => ?_⟩
    simp only [List.length_append, List.length_cons, List.length_nil] at hi
    rw [hT i (by omega) hi2, List.getElem?_set_ne (by omega)]
  · intro n a _ _ _ iha S nx hn hw T hT
    rw [bld_grp] at hT ⊢
    rw [bd_grp]
    exact iha S nx hn hw T hT
  · intro a _ iha S nx hn hw T hT
    rw [bld_ren] at hT ⊢
    rw [bd_ren]
    exact iha S nx hn hw T hT
/-! paths -/
inductive Path (S : List St) : Nat → List Nat → Nat → Nat → Prop
  | here (q : Nat) : Path S q [] q 0
  | next {q : Nat} {t : St} {w : List Nat} {r n : Nat} : S[q]? = some t → t.fork = true → Path S t.next w r n → Path S q w r (n + 1)
  | other {q : Nat} {t : St} {w : List Nat} {r n : Nat} : S[q]? = some t → t.fork = true → Path S t.other w r n → Path S q w r (n + 1)
  | read {q : Nat} {t : St} {b : Nat} {w : List Nat} {r n : Nat} : S[q]? = some t → t.fork = false → b < 256 → t.set.getLsbD b = true → Path S t.next w r n → Path S q (b :: w) r (n + 1)
theorem Path.trans {S : List St} {p q r m n : Nat} {u v : List Nat} (h : Path S p u q m) (k : Path S q v r n) : Path S p (u ++ v) r (m + n) := by
  induction h with
  | here q => rw [Nat.zero_add]; exact k
  | next h1 h2 _ ih => rw [Nat.add_right_comm]; exact .next h1 h2 (ih k)
  | other h1 h2 _ ih => rw [Nat.add_right_comm]; exact .other h1 h2 (ih k)
  | read h1 h2 h3 h4 _ ih => rw [Nat.add_right_comm]; exact .read h1 h2 h3 h4 (ih k)
theorem stars_path {S : List St} {st z : Nat} {p : List Nat → Prop} (hr : ∀ u v m, p u → Path S st v z m → ∃ n, Path S st (u ++ v) z n) {u : List Nat} (h : Stars p u) : ∀ v m, Path S st v z m → ∃ n, Path S st (u ++ v) z n := by
  induction h with
  | nil => exact fun v m h => ⟨m, h⟩
  | app hu _ ih =>
    intro v m hv
    obtain ⟨n, hn⟩ := ih v m hv
    rw [List.append_assoc]
    exact hr _ _ n hu hn
theorem some_inj {S : List St} {q : Nat} {t u : St} (h : S[q]? = some t) (k : S[q]? = some u) : t = u := by rw [h] at k; exact Option.some.inj k
/-- where a core stands, what is read is what it matches, and what is read behind it -/
def Reads (S : List St) (x : Cr) : Prop := ∀ nx st, x.bd S nx st →
  (∀ w n, Path S st w 0 n → ∃ u v m, w = u ++ v ∧ m ≤ n ∧ x.lang u ∧ Path S nx v 0 m) ∧ (∀ u v m, x.lang u → Path S nx v 0 m → ∃ n, Path S st (u ++ v) 0 n)
theorem bd_path (S : List St) (hz : S[0]? = some ⟨false, 0, 0, 0⟩) : ∀ x : Cr, x.form = true → Reads S x := by
  refine form_ind ?_ ?_ ?_ ?_ ?_ ?_ ?_ ?_
  · intro nx st hb
    rw [bd_no] at hb
    obtain ⟨h0, hb⟩ := hb
    refine ⟨fun w n h => ?_, fun u v m h => ((lang_no u).1 h).elim⟩
    cases h with
    | here => omega
    | next h1 h2 _ => rw [← some_inj hb h1] at h2; cases h2
    | other h1 h2 _ => rw [← some_inj hb h1] at h2; cases h2
    | read h1 h2 _ h4 _ => rw [← some_inj hb h1] at h4; simp at h4
  · intro nx st hb
    rw [bd_em] at hb
    subst hb
    refine ⟨fun w n h => ⟨[], w, n, rfl, Nat.le_refl _, (lang_em []).2 rfl, h⟩, fun u v m h k => ?_⟩
    rw [(lang_em u).1 h]
    exact ⟨m, k⟩
  · intro s nx st hb
    rw [bd_st] at hb
    obtain ⟨h0, hb⟩ := hb
    refine ⟨fun w n h => ?_, fun u v m h k => ?_⟩
    · cases h with
      | here => omega
      | next h1 h2 _ => rw [← some_inj hb h1] at h2; cases h2
      | other h1 h2 _ => rw [← some_inj hb h1] at h2; cases h2
      | @read _ t b w _ n h1 h2 h3 h4 h5 =>
        rw [← some_inj hb h1] at h4 h5
        exact ⟨[b], w, n, rfl, Nat.le_succ _, (lang_st s [b]).2 ⟨b, h3, h4, rfl⟩, h5⟩
    · obtain ⟨b, h1, h2, rfl⟩ := (lang_st s u).1 h
      exact ⟨m + 1, .read hb rfl h1 h2 k⟩
  · intro a b _ _ iha ihb nx st hb
    rw [bd_cat] at hb
    obtain ⟨i, h1, h2⟩ := hb
    obtain ⟨a1, a2⟩ := iha i st h2
    obtain ⟨b1, b2⟩ := ihb nx i h1
    refine ⟨fun w n h => ?_, fun u v m h k => ?_⟩
    · obtain ⟨u, v, m, rfl, hm, hu, hv⟩ := a1 w n h
      obtain ⟨u', v', m', rfl, hm', hu', hv'⟩ := b1 v m hv
      exact ⟨u ++ u', v', m', by simp, by omega, (lang_cat a b _).2 ⟨u, u', rfl, hu, hu'⟩, hv'⟩
    · obtain ⟨u1, u2, rfl, h3, h4⟩ := (lang_cat a b u).1 h
      obtain ⟨n, hn⟩ := b2 u2 v m h4 k
      obtain ⟨n', hn'⟩ := a2 u1 (u2 ++ v) n h3 hn
      exact ⟨n', by rw [List.append_assoc]; exact hn'⟩
  · intro a b _ _ iha ihb nx st hb
    rw [bd_alt] at hb
    obtain ⟨i, j, h0, h1, h2⟩ := hb
    obtain ⟨a1, a2⟩ := iha nx i h1
    obtain ⟨b1, b2⟩ := ihb nx j h2
    refine ⟨fun w n h => ?_, fun u v m h k => ?_⟩
    · cases h with
      | here => have := some_inj hz h0; cases this
      | @next _ t _ _ n g1 g2 g3 =>
        rw [← some_inj h0 g1] at g3
        obtain ⟨u, v, m, rfl, hm, hu, hv⟩ := a1 w n g3
        exact ⟨u, v, m, rfl, by omega, (lang_alt a b _).2 (.inl hu), hv⟩
      | @other _ t _ _ n g1 g2 g3 =>
        rw [← some_inj h0 g1] at g3
        obtain ⟨u, v, m, rfl, hm, hu, hv⟩ := b1 w n g3
        exact ⟨u, v, m, rfl, by omega, (lang_alt a b _).2 (.inr hu), hv⟩
      | read g1 g2 _ _ _ => rw [← some_inj h0 g1] at g2; cases g2
    · rcases (lang_alt a b u).1 h with h | h
      · obtain ⟨n, hn⟩ := a2 u v m h k
        exact ⟨n + 1, .next h0 rfl hn⟩
      · obtain ⟨n, hn⟩ := b2 u v m h k
        exact ⟨n + 1, .other h0 rfl hn⟩
  · intro a _ iha nx st hb
    rw [bd_star] at hb
    obtain ⟨i, h0, h1⟩ := hb
    obtain ⟨a1, a2⟩ := iha st i h1
    refine ⟨?_, fun u v m h k => ?_⟩
    · have main : ∀ (N : Nat) w n, n ≤ N → Path S st w 0 n → ∃ u v m, w = u ++ v ∧ m ≤ n ∧ Stars a.lang u ∧ Path S nx v 0 m := by
        intro N
        induction N with
        | zero =>
          intro w n hn h
          cases h with
          | here => have := some_inj hz h0; cases this
          | next => omega
          | other => omega
          | read => omega
        | succ N ih =>
          intro w n hn h
          cases h with
          | here => have := some_inj hz h0; cases this
          | @next _ t _ _ n g1 g2 g3 =>
            rw [← some_inj h0 g1] at g3
            obtain ⟨u, v, m, rfl, hm, hu, hv⟩ := a1 w n g3
            obtain ⟨u', v', m', rfl, hm', hu', hv'⟩ := ih v m (by omega) hv
            exact ⟨u ++ u', v', m', by simp, by omega, .app hu hu', hv'⟩
          | @other _ t _ _ n g1 g2 g3 =>
            rw [← some_inj h0 g1] at g3
            exact ⟨[], w, n, rfl, by omega, .nil, g3⟩
          | read g1 g2 _ _ _ => rw [← some_inj h0 g1] at g2; cases g2
      intro w n h
      obtain ⟨u, v, m, e, hm, hu, hv⟩ := main n w n (Nat.le_refl _) h
      exact ⟨u, v, m, e, hm, (lang_star a u).2 hu, hv⟩
    · refine stars_path (p := a.lang) (fun u v m hu hv => ?_) ((lang_star a u).1 h) v (m + 1) (.other h0 rfl k)
      obtain ⟨n, hn⟩ := a2 u v m hu hv
      exact ⟨n + 1, .next h0 rfl hn⟩
  · intro n a _ _ _ iha nx st hb
    rw [bd_grp] at hb
    simp only [lang_grp]
    exact iha nx st hb
  · intro a _ iha nx st hb
    rw [bd_ren] at hb
    simp only [lang_ren]
    exact iha nx st hb
/-- the machine of a core -/
def doneSt : St := ⟨false, 0, 0, 0⟩
def machS (x : Cr) : List St := (x.bld [doneSt] 0).1
def machQ (x : Cr) : Nat := (x.bld [doneSt] 0).2
theorem mach_wf0 : StWf [doneSt].length [doneSt] := fun t ht => by
  rw [List.mem_singleton] at ht
  subst ht
  exact ⟨by decide, by decide, fun h => by cases h⟩
theorem mach_built {x : Cr} (hx : x.form = true) : Built x [doneSt] 0 (x.bld [doneSt] 0) := built x hx [doneSt] 0 (by decide) mach_wf0
theorem mach_zero {x : Cr} (hx : x.form = true) : (machS x)[0]? = some ⟨false, 0, 0, 0⟩ := ((mach_built hx).old 0 (by decide)).trans rfl
theorem mach_lang {x : Cr} (hx : x.form = true) (w : List Nat) : (∃ n, Path (machS x) (machQ x) w 0 n) ↔ x.lang w := by
  obtain ⟨h1, h2⟩ := bd_path (machS x) (mach_zero hx) x hx 0 (machQ x) (built_bd x hx [doneSt] 0 (by decide) mach_wf0 _ fun _ _ _ => rfl)
  constructor
  · rintro ⟨n, h⟩
    obtain ⟨u, v, m, rfl, _, hu, hv⟩ := h1 w n h
    have hz := mach_zero hx
    cases hv with
    | here => rw [List.append_nil]; exact hu
    | next g1 g2 _ => rw [← some_inj hz g1] at g2; cases g2
    | other g1 g2 _ => rw [← some_inj hz g1] at g2; cases g2
    | read g1 g2 _ g4 _ => rw [← some_inj hz g1] at g4; simp at g4
  · intro h
    obtain ⟨n, hn⟩ := h2 w [] 0 h (.here 0)
    rw [List.append_nil] at hn
    exact ⟨n, hn⟩
/-! where it may be: the states that are reached by a word -/
def At (S : List St) (st : Nat) (w : List Nat) (q : Nat) : Prop := ∃ n, Path S st w q n
/-- those that are reached without reading, step by step -/
theorem eps_closed {S : List St} {P : Nat → Prop} (hcl : ∀ q t, P q → S[q]? = some t → t.fork = true → P t.next ∧ P t.other) {p q n : Nat} {w : List Nat} (h : Path S p w q n) (hw : w = []) (hp : P p) : P q := by
  induction h with
  | here => exact hp
  | next h1 h2 _ ih => exact ih hw (hcl _ _ hp h1 h2).1
  | other h1 h2 _ ih => exact ih hw (hcl _ _ hp h1 h2).2
  | read => cases hw
/-- the last byte read -/
theorem Path.last {S : List St} {p r n : Nat} {v : List Nat} (h : Path S p v r n) : ∀ {w : List Nat} {b : Nat}, v = w ++ [b] → ∃ q t, At S p w q ∧ S[q]? = some t ∧ t.fork = false ∧ b < 256 ∧ t.set.getLsbD b = true ∧ At S t.next [] r := by
  induction h with
  | here => intro w b e; simp at e
  | next h1 h2 _ ih =>
    intro w b e
    obtain ⟨q, t, ⟨n, hn⟩, h⟩ := ih e
    exact ⟨q, t, ⟨_, .next h1 h2 hn⟩, h⟩
  | other h1 h2 _ ih =>
    intro w b e
    obtain ⟨q, t, ⟨n, hn⟩, h⟩ := ih e
    exact ⟨q, t, ⟨_, .other h1 h2 hn⟩, h⟩
  | @read q t c w' r n h1 h2 h3 h4 h5 ih =>
    intro w b e
    cases w with
    | nil =>
      simp only [List.nil_append, List.cons.injEq] at e
      obtain ⟨rfl, rfl⟩ := e
      exact ⟨q, t, ⟨0, .here q⟩, h1, h2, h3, h4, ⟨n, h5⟩⟩
    | cons d w =>
      simp only [List.cons_append, List.cons.injEq] at e
      obtain ⟨rfl, rfl⟩ := e
      obtain ⟨q', t', ⟨n', hn⟩, h⟩ := ih rfl
      exact ⟨q', t', ⟨_, .read h1 h2 h3 h4 hn⟩, h⟩
theorem At.snoc {S : List St} {p q r : Nat} {w : List Nat} {b : Nat} {t : St} (h : At S p w q) (h1 : S[q]? = some t) (h2 : t.fork = false) (h3 : b < 256) (h4 : t.set.getLsbD b = true) (h5 : At S t.next [] r) : At S p (w ++ [b]) r := by
  obtain ⟨n, hn⟩ := h
  obtain ⟨m, hm⟩ := h5
  exact ⟨_, hn.trans (.read h1 h2 h3 h4 hm)⟩
theorem At.snoc_iff {S : List St} {p r : Nat} {w : List Nat} {b : Nat} : At S p (w ++ [b]) r ↔ ∃ q t, At S p w q ∧ S[q]? = some t ∧ t.fork = false ∧ b < 256 ∧ t.set.getLsbD b = true ∧ At S t.next [] r :=
  ⟨fun ⟨_, h⟩ => h.last rfl, fun ⟨_, _, h, h1, h2, h3, h4, h5⟩ => h.snoc h1 h2 h3 h4 h5⟩
theorem Path.lt {S : List St} (hw : StWf S.length S) {p q n : Nat} {w : List Nat} (h : Path S p w q n) (hp : p < S.length) : q < S.length := by
  induction h with
  | here => exact hp
  | next h1 _ _ ih => exact ih (hw _ (List.mem_of_getElem? h1)).1
  | other h1 _ _ ih => exact ih (hw _ (List.mem_of_getElem? h1)).2.1
  | read h1 _ _ _ _ ih => exact ih (hw _ (List.mem_of_getElem? h1)).1

/-! a crowd: states in a list, and marks -/
/-- how many are not marked -/
def off (I : List Bool) : Nat := I.count false
theorem off_set {I : List Bool} {q : Nat} (h : I[q]? = some false) : off (I.set q true) + 1 = off I := by
  obtain ⟨hq, he⟩ := List.getElem?_eq_some_iff.1 h
  unfold off
  have hp : 0 < List.count false I := List.count_pos_iff.2 (he ▸ List.getElem_mem hq)
  rw [List.count_set hq]
  simp [he]
  omega
theorem off_pos {I : List Bool} {q : Nat} (h : I[q]? = some false) : 0 < off I := by have := off_set h; omega
/-- the crowd with a state entered, and all those to which it leads without reading -/
def enterM : Nat → List St → List Nat × List Bool → Nat → List Nat × List Bool
  | 0, _, c, _ => c
  | n + 1, S, c, q =>
    if c.2[q]? = some true then c else
    match S[q]? with
    | some t => if t.fork = true then enterM n S (enterM n S (c.1 ++ [q], c.2.set q true) t.next) t.other else (c.1 ++ [q], c.2.set q true)
    | none => (c.1 ++ [q], c.2.set q true)
/-- what is so of a crowd of a machine of n states -/
structure CrOk (n : Nat) (c : List Nat × List Bool) : Prop where
  len : c.2.length = n
  cnt : c.1.length + off c.2 = n
  mem : ∀ q : Nat, q ∈ c.1 ↔ c.2[q]? = some true
/-- what entering does -/
structure Entered (S : List St) (c d : List Nat × List Bool) (q : Nat) : Prop where
  ok : CrOk S.length d
  sub : ∀ p : Nat, c.2[p]? = some true → d.2[p]? = some true
  mono : off d.2 ≤ off c.2
  got : d.2[q]? = some true
  cl : ∀ (p : Nat) (t : St), d.2[p]? = some true → c.2[p]? ≠ some true → S[p]? = some t → t.fork = true → d.2[t.next]? = some true ∧ d.2[t.other]? = some true
  at_ : ∀ p : Nat, d.2[p]? = some true → c.2[p]? = some true ∨ At S q [] p
theorem crOk_add {n : Nat} {c : List Nat × List Bool} {q : Nat} (h : CrOk n c) (hq : c.2[q]? = some false) : CrOk n (c.1 ++ [q], c.2.set q true) := by
  obtain ⟨hlt, _⟩ := List.getElem?_eq_some_iff.1 hq
  have h2 := off_set hq
  have h3 := h.cnt
  refine ⟨by simp [h.len], by simp; omega, fun p => ?_⟩
  simp only [List.mem_append, List.mem_singleton, h.mem p]
  by_cases e : p = q
  · subst e; simp [List.getElem?_set_self hlt]
  · rw [List.getElem?_set_ne (by omega)]; simp [e]
theorem enter_ok {S : List St} (hw : StWf S.length S) : ∀ (n : Nat) (c : List Nat × List Bool) (q : Nat), CrOk S.length c → q < S.length → off c.2 < n → Entered S c (enterM n S c q) q := by
  intro n
  induction n with
  | zero => intro c q _ _ h; omega
  | succ n ih =>
    intro c q hc hq hn
    rw [enterM]
    have hlt : q < c.2.length := by rw [hc.len]; exact hq
    by_cases h1 : c.2[q]? = some true
    · rw [if_pos h1]
      exact ⟨hc, fun _ h => h, Nat.le_refl _, h1, fun p t h h' => absurd h h', fun p h => .inl h⟩
    rw [if_neg h1]
    have h0 : c.2[q]? = some false := by
      rw [List.getElem?_eq_getElem hlt] at h1 ⊢
      cases hv : c.2[q] with
      | true => rw [hv] at h1; exact absurd rfl h1
      | false => rfl
    have hadd := crOk_add hc h0
    have hoff := off_set h0
    have hgot : (c.2.set q true)[q]? = some true := List.getElem?_set_self hlt
    have hsub : ∀ p, c.2[p]? = some true → (c.2.set q true)[p]? = some true := fun p hp => by
      by_cases e : p = q
      · subst e; exact hgot
      · rw [List.getElem?_set_ne (by omega)]; exact hp
    have hback : ∀ p, (c.2.set q true)[p]? = some true → c.2[p]? = some true ∨ p = q := fun p hp => by
      by_cases e : p = q
      · exact .inr e
      · rw [List.getElem?_set_ne (by omega)] at hp; exact .inl hp
    rw [List.getElem?_eq_getElem hq]
    simp only
    have hq? := List.getElem?_eq_getElem hq
    by_cases hf : S[q].fork = true
    · rw [if_pos hf]
      obtain ⟨w1, w2, _⟩ := hw _ (List.getElem_mem hq)
      have e1 := ih (c.1 ++ [q], c.2.set q true) S[q].next hadd w1 (by simp only; omega)
      obtain ⟨d, hd⟩ : ∃ d, d = enterM n S (c.1 ++ [q], c.2.set q true) S[q].next := ⟨_, rfl⟩
      rw [← hd] at e1 ⊢
      have hoff2 := e1.mono
      simp only at hoff2
      have e2 := ih d S[q].other e1.ok w2 (by omega)
      obtain ⟨f, hf'⟩ : ∃ f, f = enterM n S d S[q].other := ⟨_, rfl⟩
      rw [← hf'] at e2 ⊢
      refine ⟨e2.ok, fun p hp => e2.sub p (e1.sub p (hsub p hp)), by have := e2.mono; omega, e2.sub q (e1.sub q hgot), fun p t hp hnp ht hft => ?_, fun p hp => ?_⟩
      · by_cases hd2 : d.2[p]? = some true
        · by_cases hpq : p = q
          · subst hpq
            rw [hq?] at ht
            cases ht
            exact ⟨e2.sub _ e1.got, e2.got⟩
          · obtain ⟨g1, g2⟩ := e1.cl p t hd2 (fun h => by rcases hback p h with h | h; exact hnp h; exact hpq h) ht hft
            exact ⟨e2.sub _ g1, e2.sub _ g2⟩
        · exact e2.cl p t hp hd2 ht hft
      · rcases e2.at_ p hp with h | ⟨m, h⟩
        · rcases e1.at_ p h with h | ⟨m, h⟩
          · rcases hback p h with h | h
            · exact .inl h
            · subst h; exact .inr ⟨0, .here _⟩
          · exact .inr ⟨_, .next hq? hf h⟩
        · exact .inr ⟨_, .other hq? hf h⟩
    · rw [if_neg hf]
      refine ⟨hadd, hsub, by simp only; omega, hgot, fun p t hp hnp ht hft => ?_, fun p hp => ?_⟩
      · rcases hback p hp with h | h
        · exact absurd h hnp
        · subst h; rw [hq?] at ht; cases ht; exact absurd hft hf
      · rcases hback p hp with h | h
        · exact .inl h
        · subst h; exact .inr ⟨0, .here _⟩
/-- nothing marked -/
def noCrowd (n : Nat) : List Nat × List Bool := ([], List.replicate n false)
theorem noCrowd_ok (n : Nat) : CrOk n (noCrowd n) := by
  refine ⟨by simp [noCrowd], by simp [noCrowd, off], fun q => ?_⟩
  simp only [noCrowd, List.not_mem_nil, false_iff, List.getElem?_replicate]
  split <;> simp
theorem noCrowd_mark (n q : Nat) : (noCrowd n).2[q]? ≠ some true := by
  simp only [noCrowd, List.getElem?_replicate]
  split <;> simp
/-- marks that are closed: what is marked leads to what is marked -/
def Closed (S : List St) (I : List Bool) : Prop := ∀ (p : Nat) (t : St), I[p]? = some true → S[p]? = some t → t.fork = true → I[t.next]? = some true ∧ I[t.other]? = some true
theorem entered_closed {S : List St} {c d : List Nat × List Bool} {q : Nat} (h : Entered S c d q) (hc : Closed S c.2) : Closed S d.2 ∧ ∀ p, d.2[p]? = some true ↔ c.2[p]? = some true ∨ At S q [] p := by
  have hcl : Closed S d.2 := fun p t hp ht hf => by
    by_cases hcp : c.2[p]? = some true
    · obtain ⟨h1, h2⟩ := hc p t hcp ht hf
      exact ⟨h.sub _ h1, h.sub _ h2⟩
    · exact h.cl p t hp hcp ht hf
  refine ⟨hcl, fun p => ⟨h.at_ p, ?_⟩⟩
  rintro (hp | ⟨n, hn⟩)
  · exact h.sub p hp
  · exact eps_closed (P := fun p => d.2[p]? = some true) (fun q t hq ht hf => hcl q t hq ht hf) hn rfl h.got
/-- one state of the crowd reads a byte -/
def readM (S : List St) (b : Nat) (d : List Nat × List Bool) (q : Nat) : List Nat × List Bool :=
  match S[q]? with
  | some t => if t.set.getLsbD b = true then enterM (S.length + 1) S d t.next else d
  | none => d
def stepM (S : List St) (c : List Nat × List Bool) (b : Nat) : List Nat × List Bool := c.1.foldl (readM S b) (noCrowd S.length)
def startM (S : List St) (q : Nat) : List Nat × List Bool := enterM (S.length + 1) S (noCrowd S.length) q
/-- the crowd of the states that are reached by a word -/
structure CrIs (S : List St) (st : Nat) (w : List Nat) (c : List Nat × List Bool) : Prop where
  ok : CrOk S.length c
  is : ∀ q, c.2[q]? = some true ↔ At S st w q
theorem off_le (I : List Bool) : off I ≤ I.length := List.count_le_length
theorem start_is {S : List St} (hw : StWf S.length S) {st : Nat} (hs : st < S.length) : CrIs S st [] (startM S st) := by
  have h := enter_ok hw (S.length + 1) (noCrowd S.length) st (noCrowd_ok _) hs (by have := off_le (noCrowd S.length).2; rw [(noCrowd_ok _).len] at this; omega)
  have hc := entered_closed h (fun p t hp => absurd hp (noCrowd_mark _ _))
  refine ⟨h.ok, fun q => (hc.2 q).trans ⟨?_, .inr⟩⟩
  rintro (h | h)
  · exact absurd h (noCrowd_mark _ _)
  · exact h
/-- what has been entered while the first ones have read -/
structure Half (S : List St) (b : Nat) (l : List Nat) (d : List Nat × List Bool) : Prop where
  ok : CrOk S.length d
  cl : Closed S d.2
  is : ∀ r, d.2[r]? = some true ↔ ∃ q t, q ∈ l ∧ S[q]? = some t ∧ t.set.getLsbD b = true ∧ At S t.next [] r
theorem half_read {S : List St} (hw : StWf S.length S) {b : Nat} {l : List Nat} {d : List Nat × List Bool} {q : Nat} (h : Half S b l d) (hq : q < S.length) : Half S b (l ++ [q]) (readM S b d q) := by
  unfold readM
  have e := List.getElem?_eq_getElem hq
  rw [e]
  simp only
  by_cases hb : S[q].set.getLsbD b = true
  · rw [if_pos hb]
    have hn := enter_ok hw (S.length + 1) d S[q].next h.ok (hw _ (List.getElem_mem hq)).1 (by have := off_le d.2; rw [h.ok.len] at this; omega)
    obtain ⟨h1, h2⟩ := entered_closed hn h.cl
    refine ⟨hn.ok, h1, fun r => (h2 r).trans ?_⟩
    rw [h.is r]
    constructor
    · rintro (⟨p, t, hp, g⟩ | g)
      · exact ⟨p, t, List.mem_append_left _ hp, g⟩
      · exact ⟨q, _, by simp, e, hb, g⟩
    · rintro ⟨p, t, hp, g1, g2, g3⟩
      rcases List.mem_append.1 hp with hp | hp
      · exact .inl ⟨p, t, hp, g1, g2, g3⟩
      · rw [List.mem_singleton] at hp
        subst hp
        rw [e] at g1
        cases g1
        exact .inr g3
  · rw [if_neg hb]
    refine ⟨h.ok, h.cl, fun r => (h.is r).trans ?_⟩
    constructor
    · rintro ⟨p, t, hp, g⟩; exact ⟨p, t, List.mem_append_left _ hp, g⟩
    · rintro ⟨p, t, hp, g1, g2, g3⟩
      rcases List.mem_append.1 hp with hp | hp
      · exact ⟨p, t, hp, g1, g2, g3⟩
      · rw [List.mem_singleton] at hp
        subst hp
        rw [e] at g1
        cases g1
        exact absurd g2 hb
theorem half_none (S : List St) (b : Nat) : Half S b [] (noCrowd S.length) :=
  ⟨noCrowd_ok _, fun p t hp => absurd hp (noCrowd_mark _ _), fun r => ⟨fun h => absurd h (noCrowd_mark _ _), fun ⟨_, _, h, _⟩ => by cases h⟩⟩
theorem half_fold {S : List St} (hw : StWf S.length S) {b : Nat} : ∀ (l : List Nat), (∀ q ∈ l, q < S.length) → Half S b l (l.foldl (readM S b) (noCrowd S.length)) := by
  have main : ∀ (l k : List Nat) (d : List Nat × List Bool), (∀ q ∈ l, q < S.length) → Half S b k d → Half S b (k ++ l) (l.foldl (readM S b) d) := by
    intro l
    induction l with
    | nil => intro k d _ h; rw [List.append_nil]; exact h
    | cons q l ih =>
      intro k d hl h
      have := ih (k ++ [q]) (readM S b d q) (fun p hp => hl p (by simp [hp])) (half_read hw h (hl q (by simp)))
      rw [List.append_assoc] at this
      exact this
  intro l hl
  exact main l [] _ hl (half_none S b)
theorem crowd_lt {n : Nat} {c : List Nat × List Bool} (h : CrOk n c) {q : Nat} (hq : q ∈ c.1) : q < n := by
  rw [h.mem] at hq
  obtain ⟨h1, _⟩ := List.getElem?_eq_some_iff.1 hq
  rw [h.len] at h1; exact h1
theorem step_is {S : List St} (hw : StWf S.length S) {st b : Nat} (hb : b < 256) {w : List Nat} {c : List Nat × List Bool} (h : CrIs S st w c) : CrIs S st (w ++ [b]) (stepM S c b) := by
  have hf := half_fold hw (b := b) c.1 (fun q hq => crowd_lt h.ok hq)
  refine ⟨hf.ok, fun r => (hf.is r).trans ?_⟩
  rw [At.snoc_iff]
  constructor
  · rintro ⟨q, t, hq, ht, hbt, hr⟩
    refine ⟨q, t, (h.is q).1 ((h.ok.mem q).1 hq), ht, ?_, hb, hbt, hr⟩
    cases hf : t.fork with
    | false => rfl
    | true =>
      have := (hw t (List.mem_of_getElem? ht)).2.2 hf
      rw [this] at hbt
      simp at hbt
  · rintro ⟨q, t, hq, ht, _, _, hbt, hr⟩
    exact ⟨q, t, (h.ok.mem q).2 ((h.is q).2 hq), ht, hbt, hr⟩
/-- where it is done: at once, and behind each byte -/
def endsM (S : List St) : List Nat → Nat → List Nat × List Bool → List Nat
  | [], i, c => if c.1 = [] then [] else if c.2[0]? = some true then [i] else []
  | b :: r, i, c => if c.1 = [] then [] else (if c.2[0]? = some true then [i] else []) ++ endsM S r (i + 1) (stepM S c b)
/-- where the words that p tells end, w read already -/
def endsL (p : List Nat → Bool) : List Nat → Nat → List Nat → List Nat
  | w, i, [] => if p w = true then [i] else []
  | w, i, b :: r => (if p w = true then [i] else []) ++ endsL p (w ++ [b]) (i + 1) r
theorem endsL_no {p : List Nat → Bool} : ∀ (r w : List Nat) (i : Nat), (∀ k, k ≤ r.length → p (w ++ r.take k) = false) → endsL p w i r = []
  | [], w, i, h => by
    have := h 0 (Nat.zero_le _)
    rw [List.take_zero, List.append_nil] at this
    rw [endsL, this]; rfl
  | b :: r, w, i, h => by
    have h0 := h 0 (Nat.zero_le _)
    rw [List.take_zero, List.append_nil] at h0
    rw [endsL, h0, endsL_no r (w ++ [b]) (i + 1) (fun k hk => by
      have := h (k + 1) (by simp; omega)
      rw [List.take_succ_cons] at this
      rw [List.append_assoc]; exact this)]; rfl
theorem At.split {S : List St} {p r : Nat} : ∀ (u w : List Nat), At S p (w ++ u) r → ∃ q, At S p w q
  | [], w, h => ⟨r, by rw [List.append_nil] at h; exact h⟩
  | b :: u, w, h => by
    have h' : At S p ((w ++ [b]) ++ u) r := by rw [List.append_assoc]; exact h
    obtain ⟨q, hq⟩ := At.split u (w ++ [b]) h'
    obtain ⟨q', _, hq', _⟩ := At.snoc_iff.1 hq
    exact ⟨q', hq'⟩
theorem ends_eq {S : List St} (hw : StWf S.length S) {st : Nat} {p : List Nat → Bool} : ∀ (r w : List Nat) (i : Nat) (c : List Nat × List Bool), (∀ k, k ≤ r.length → (p (w ++ r.take k) = true ↔ At S st (w ++ r.take k) 0)) → (∀ b ∈ r, b < 256) → CrIs S st w c → endsM S r i c = endsL p w i r := by
  intro r
  induction r with
  | nil =>
    intro w i c h1 _ hc
    rw [endsM, endsL]
    have hp := h1 0 (Nat.le_refl _)
    rw [List.take_zero, List.append_nil, ← hc.is] at hp
    by_cases hn : c.1 = []
    · rw [if_pos hn]
      have : ¬ p w = true := by rw [hp, ← hc.ok.mem, hn]; simp
      rw [if_neg this]
    · rw [if_neg hn]
      by_cases h : p w = true
      · rw [if_pos h, if_pos (hp.1 h)]
      · rw [if_neg h, if_neg (fun h' => h (hp.2 h'))]
  | cons b r ih =>
    intro w i c h1 hb hc
    rw [endsM]
    by_cases hn : c.1 = []
    · rw [if_pos hn, endsL_no]
      intro k hk
      cases hu : p (w ++ (b :: r).take k) with
      | false => rfl
      | true =>
        obtain ⟨q, hq⟩ := At.split _ w ((h1 k hk).1 hu)
        rw [← hc.is, ← hc.ok.mem, hn] at hq
        cases hq
    · rw [if_neg hn, endsL]
      have hp := h1 0 (Nat.zero_le _)
      rw [List.take_zero, List.append_nil, ← hc.is] at hp
      rw [ih (w ++ [b]) (i + 1) (stepM S c b) (fun k hk => by
        have := h1 (k + 1) (by simp; omega)
        rw [List.take_succ_cons] at this
        rw [List.append_assoc]; exact this) (fun c hc => hb c (by simp [hc])) (step_is hw (hb b (by simp)) hc)]
      by_cases h : p w = true
      · rw [if_pos h, if_pos (hp.1 h)]
      · rw [if_neg h, if_neg (fun h' => h (hp.2 h'))]
/-- the machine of a core finds where its words end -/
theorem mach_ends {x : Cr} (hx : x.form = true) (r : List Nat) (hr : ∀ b ∈ r, b < 256) (i : Nat) : endsM (machS x) r i (startM (machS x) (machQ x)) = endsL (matchB x) [] i r := by
  have hb := mach_built hx
  have hw : StWf (machS x).length (machS x) := hb.wf
  refine ends_eq hw r [] i _ (fun k _ => ?_) hr (start_is hw hb.lt)
  rw [List.nil_append]
  exact (matchB_iff _ x hx (fun b hb => hr b (List.mem_of_mem_take hb))).trans (mach_lang hx _).symm
/-! what is told -/
theorem endsL_mem {p : List Nat → Bool} : ∀ (r w : List Nat) (i j : Nat), j ∈ endsL p w i r ↔ ∃ k, k ≤ r.length ∧ j = i + k ∧ p (w ++ r.take k) = true
  | [], w, i, j => by
    rw [endsL]
    constructor
    · intro h
      by_cases hp : p w = true
      · rw [if_pos hp, List.mem_singleton] at h
        exact ⟨0, Nat.le_refl _, h, by rw [List.take_zero, List.append_nil]; exact hp⟩
      · rw [if_neg hp] at h; cases h
    · rintro ⟨k, hk, rfl, hp⟩
      obtain rfl : k = 0 := by simpa using hk
      rw [List.take_zero, List.append_nil] at hp
      rw [if_pos hp]; simp
  | b :: r, w, i, j => by
    rw [endsL, List.mem_append, endsL_mem r (w ++ [b]) (i + 1) j]
    constructor
    · rintro (h | ⟨k, hk, rfl, hp⟩)
      · by_cases hp : p w = true
        · rw [if_pos hp, List.mem_singleton] at h
          exact ⟨0, Nat.zero_le _, h, by rw [List.take_zero, List.append_nil]; exact hp⟩
        · rw [if_neg hp] at h; cases h
      · refine ⟨k + 1, by simp; omega, by omega, ?_⟩
        rw [List.take_succ_cons]; rw [List.append_assoc] at hp; exact hp
    · rintro ⟨k, hk, rfl, hp⟩
      cases k with
      | zero =>
        rw [List.take_zero, List.append_nil] at hp
        rw [if_pos hp]; simp
      | succ k =>
        refine .inr ⟨k, by simpa using hk, by omega, ?_⟩
        rw [List.take_succ_cons] at hp; rw [List.append_assoc]; exact hp
theorem endsL_len (p : List Nat → Bool) : ∀ (r w : List Nat) (i : Nat), (endsL p w i r).length ≤ r.length + 1
  | [], w, i => by rw [endsL]; split <;> simp
  | b :: r, w, i => by
    rw [endsL, List.length_append]
    have := endsL_len p r (w ++ [b]) (i + 1)
    simp only [List.length_cons]
    split <;> simp <;> omega
/-- the last one is the whole, if the whole is told -/
theorem endsL_last (p : List Nat → Bool) : ∀ (r w : List Nat) (i : Nat), p (w ++ r) = true → (endsL p w i r).getLast? = some (i + r.length)
  | [], w, i, h => by
    rw [List.append_nil] at h
    rw [endsL, if_pos h]; rfl
  | b :: r, w, i, h => by
    have h' : p ((w ++ [b]) ++ r) = true := by rw [List.append_assoc]; exact h
    have := endsL_last p r (w ++ [b]) (i + 1) h'
    rw [endsL, List.getLast?_append, this, List.length_cons]
    simp; omega
/-- the first one is the least -/
theorem endsL_head (p : List Nat → Bool) (r w : List Nat) (i : Nat) (h : p w = true) : ∃ l, endsL p w i r = i :: l := by
  cases r with
  | nil => rw [endsL, if_pos h]; exact ⟨[], rfl⟩
  | cons b r => rw [endsL, if_pos h]; exact ⟨_, rfl⟩
/-- which strings may be asked of, from where -/
def endsC (x : Cr) (s : List Nat) (i : Int) : List Nat := if s.length ≤ 256 ∧ 0 ≤ i ∧ i ≤ s.length ∧ goodC x = true then endsL (matchB x) [] i.toNat (s.drop i.toNat) else []
def saysC (x : Cr) (s : List Nat) : Bool := decide (s.length ≤ 256) && goodC x && matchB x s
theorem endsC_says (x : Cr) (s : List Nat) : saysC x s = decide ((endsC x s 0).getLast? = some s.length) := by
  rw [Bool.eq_iff_iff, decide_eq_true_eq]
  unfold saysC endsC
  simp only [Bool.and_eq_true, decide_eq_true_eq]
  constructor
  · rintro ⟨⟨h1, h2⟩, h3⟩
    rw [if_pos ⟨h1, by decide, by omega, h2⟩, show (0 : Int).toNat = 0 from rfl, List.drop_zero]
    rw [endsL_last _ _ _ _ (by rw [List.nil_append]; exact h3)]
    simp
  · intro h
    by_cases hc : s.length ≤ 256 ∧ (0 : Int) ≤ 0 ∧ (0 : Int) ≤ s.length ∧ goodC x = true
    · rw [if_pos hc, show (0 : Int).toNat = 0 from rfl, List.drop_zero] at h
      obtain ⟨k, hk, e, hp⟩ := (endsL_mem _ _ _ _).1 (List.mem_of_getLast? h)
      rw [Nat.zero_add] at e
      subst e
      rw [List.take_length, List.nil_append] at hp
      exact ⟨⟨hc.1, hc.2.2.2⟩, hp⟩
    · rw [if_neg hc] at h; cases h
end K
end Go.Proofs.Ytobhjfhmhhahoaa
