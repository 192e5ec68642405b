/- What the laws of layer 12 lean on: the list that Of answers, place by place. -/
import Derived.Test.YtonhmjfopidacaaDoorCapsAwake
import Derived.Test.YtonhmjfopidacaaDoorValWide
import Derived.Test.YtonhmjfopidacaaDoorValOps
import Derived.Test.YtonhmjfopidacaaDoorCoreBig
namespace Go.Proofs.YtonhmjfopidacaaDoor
namespace V
set_option maxRecDepth 100000
open Go.RowKit
theorem spansL_get (a : Int) (p : Wk) (n j : Nat) (hj : j < (spansL a p n).length) : (spansL a p n)[j] = if j = 0 then (wrap64 a, wrap64 p.1) else spW (p.2 j) := by
  cases j with
  | zero => rfl
  | succ j => simp [spansL]
theorem spansL_same (a : Int) (p : Wk) {m n : Nat} (_h : m ≤ n) (j : Nat) (h1 : j < (spansL a p m).length) (h2 : j < (spansL a p n).length) : (spansL a p m)[j] = (spansL a p n)[j] := by
  rw [spansL_get, spansL_get]
/-- a walk ends behind all bytes -/
theorem cap_len : ∀ (m : Nat) (c : K.Cr), c.count ≤ m → c.form = true → ∀ v p, bel c v = true → (cap c v p).1 = p.1 + (v.flat.length : Int)
  | 0, c, h, _, _, _, _ => absurd (K.Cr.count_pos c) (by omega)
  | m + 1, .mk k st n l, hm, hf, v, p, hb => by
    rw [K.count_mk] at hm
    obtain ⟨hfl, hn0, hn32, hk⟩ := form_kinds hf
    have ih : ∀ y ∈ l, ∀ v p, bel y v = true → (cap y v p).1 = p.1 + (v.flat.length : Int) := fun y hy => cap_len m y (by have := K.counts_mem hy; omega) (hfl y hy)
    rcases hk with ⟨hk, rfl⟩ | ⟨rfl, rfl⟩ | ⟨hk, x, y, rfl⟩ | ⟨hk, x, rfl⟩
    · rcases hk with rfl | rfl
      · rw [bel_zero] at hb; cases hb
      · obtain rfl := bel_one hb
        have e : cap (.mk 1 st n []) (.mk 1 0 []) p = p := by rw [cap_mk]; rfl
        rw [e, flat_mk]; simp
    · obtain ⟨b, rfl⟩ := bel_two hb
      have e : cap (.mk 2 st n []) (.mk 2 b []) p = (p.1 + 1, p.2) := by rw [cap_mk]; rfl
      rw [e, flat_mk]; rfl
    · rcases hk with rfl | rfl
      · obtain ⟨v1, v2, rfl, h1, h2⟩ := bel_three hb
        have e : cap (.mk 3 st n [x, y]) (.mk 3 0 [v1, v2]) p = cap y v2 (cap x v1 p) := by rw [cap_mk]; rfl
        rw [e, ih y (by simp) v2 _ h2, ih x (by simp) v1 _ h1, flat_mk]
        simp [cntN]; omega
      · obtain ⟨v1, ⟨rfl, h1⟩ | ⟨rfl, h1⟩⟩ := bel_four hb
        · have e : cap (.mk 4 st n [x, y]) (.mk 4 0 [v1]) p = cap x v1 p := by rw [cap_mk]; rfl
          rw [e, ih x (by simp) v1 _ h1, flat_mk]
          simp [cntN]
        · have e : cap (.mk 4 st n [x, y]) (.mk 5 0 [v1]) p = cap y v1 p := by rw [cap_mk]; rfl
          rw [e, ih y (by simp) v1 _ h1, flat_mk]
          simp [cntN]
    · rcases hk with rfl | rfl | rfl
      · obtain ⟨vl, rfl, h1⟩ := bel_five hb
        have e : cap (.mk 5 st n [x]) (.mk 6 0 vl) p = vl.foldl (fun q u => cap x u (q.1, unsetG (fun t => hasG t x) q.2)) p := by
          rw [cap_mk]; unfold capT; rw [one_group]; rfl
        have hfold : ∀ (L : List Vl) (p : Wk), (∀ u ∈ L, bel x u = true) → (L.foldl (fun q u => cap x u (q.1, unsetG (fun t => hasG t x) q.2)) p).1 = p.1 + ((L.flatMap Vl.flat).length : Int) := by
          intro L
          induction L with
          | nil => intro p _; simp
          | cons u L ihL =>
            intro p hu
            rw [List.foldl_cons, ihL _ (fun z hz => hu z (by simp [hz])), ih x (by simp) u _ (hu u (by simp)), List.flatMap_cons, List.length_append]
            simp; omega
        rw [e, hfold vl p h1, flat_mk]
        simp [cntN]
      · obtain ⟨v1, rfl, h1⟩ := bel_six hb
        have e : (cap (.mk 6 st n [x]) (.mk 7 0 [v1]) p).1 = (cap x v1 p).1 := by rw [cap_mk]; rfl
        rw [e, ih x (by simp) v1 _ h1, flat_mk]
        simp [cntN]
      · have e : cap (.mk 7 st n [x]) v p = cap x v (p.1, unsetG (fun t => hasG t x) p.2) := by
          cases v; rw [cap_mk]; unfold capT; rw [one_group]; rfl
        rw [e, ih x (by simp) v _ (bel_seven hb)]
/-- what Of answers, at a place and moved along -/
theorem spans_inside {c : K.Cr} {v : Vl} (hg : goodV c v = true) {a b : Int} (ha : 0 ≤ a) (ha2 : a ≤ 1048576) (hb : 0 ≤ b) (hb2 : b ≤ 1048576) (hf : v.flat.length ≤ 1048576) (j : Nat) (h1 : j < (spansL a (cap c v (a, none32)) 32).length) (h2 : j < (spansL (a + b) (cap c v (a + b, none32)) 32).length) :
    ((spansL a (cap c v (a, none32)) 32)[j]'h1 = (-1, -1) ∧ (spansL (a + b) (cap c v (a + b, none32)) 32)[j]'h2 = (-1, -1)) ∨
    ∃ f t, (spansL a (cap c v (a, none32)) 32)[j]'h1 = (f, t) ∧ (spansL (a + b) (cap c v (a + b, none32)) 32)[j]'h2 = (f + b, t + b) ∧ a ≤ f ∧ f ≤ t ∧ t ≤ a + (v.flat.length : Int) := by
  have hgf : c.form = true := by
    unfold goodV K.goodC at hg
    simp only [Bool.and_eq_true] at hg
    exact hg.1.2
  have hbel : bel c v = true := by
    unfold goodV at hg
    rw [Bool.and_eq_true] at hg
    exact hg.2
  obtain ⟨n, r, hm⟩ := cap_moves _ c (Nat.le_refl _) hgf v
  have hl := cap_len _ c (Nat.le_refl _) hgf v (a, none32) hbel
  rw [hm.eq] at hl
  have hn : n = (v.flat.length : Int) := by
    have : a + n = a + (v.flat.length : Int) := hl
    omega
  have hwr : ∀ z : Int, 0 ≤ z → z ≤ 4194304 → wrap64 z = z := fun z h1 h2 => by unfold wrap64; omega
  rw [spansL_get, spansL_get, hm.eq, hm.eq]
  by_cases h0 : j = 0
  · rw [if_pos h0, if_pos h0]
    refine .inr ⟨a, a + n, ?_, ?_, by omega, by omega, by omega⟩
    · rw [hwr a ha (by omega)]
      show (a, wrap64 (a + n)) = _
      rw [hwr (a + n) (by omega) (by omega)]
    · rw [hwr (a + b) (by omega) (by omega)]
      show (a + b, wrap64 (a + b + n)) = _
      rw [hwr (a + b + n) (by omega) (by omega)]
      congr 1; omega
  · rw [if_neg h0, if_neg h0]
    show (spW (app r a none32 j) = _ ∧ spW (app r (a + b) none32 j) = _) ∨ ∃ f t, spW (app r a none32 j) = _ ∧ spW (app r (a + b) none32 j) = _ ∧ _
    unfold app
    cases hr : r j with
    | none => exact .inl ⟨rfl, rfl⟩
    | some q =>
      cases q with
      | none => exact .inl ⟨rfl, rfl⟩
      | some q =>
        obtain ⟨f, t⟩ := q
        obtain ⟨o1, o2, o3⟩ := hm.ok j f t hr
        refine .inr ⟨a + f, a + t, ?_, ?_, by omega, by omega, by omega⟩
        · show (wrap64 (a + f), wrap64 (a + t)) = _
          rw [hwr _ (by omega) (by omega), hwr _ (by omega) (by omega)]
        · show (wrap64 (a + b + f), wrap64 (a + b + t)) = _
          rw [hwr _ (by omega) (by omega), hwr _ (by omega) (by omega)]
          rw [show a + b + f = a + f + b from by omega, show a + b + t = a + t + b from by omega]
theorem len12 {y : Vl} {ds : List Value} {w : World} (hat : Vl.at w y ds) (h : y.count ≤ 1048576) : Calls Tryd.prog 33 #[.agg ds.toArray] w fun e w' => e = .returned (.int .i64 (y.flat.length : Int)) ∧ Below w.heap.size w w' := by
  have := len_any y ds w hat
  rw [len_flat (by omega)] at this
  exact this
theorem loadSpan {w : World} {b off : Nat} {f t : Int} (h : w.cell? ⟨b, off, none⟩ = some (.int .i64 f) ∧ w.cell? ⟨b, off + 1, none⟩ = some (.int .i64 t)) : (loadVar 47 ⟨b, off, none⟩).run Tryd.prog w = .ok (.agg #[.int .i64 f, .int .i64 t]) w := by
  have hl := run_loadCells_list (P := Tryd.prog) w ⟨b, off, none⟩ [.int .i64 f, .int .i64 t] (fun j v hv => by
    rw [addr_at]
    match j, hv with
    | 0, hv => rw [← hv]; exact h.1
    | 1, hv => rw [← hv]; exact h.2)
  have hi := infoSpan
  cases hq : Tryd.prog.info? 47 with
  | none => simp [hq] at hi
  | some i =>
    have hs : i.size = 2 := by simpa [hq] using hi
    have hagg : (isAgg 47).run Tryd.prog w = .ok true w := by
      unfold isAgg
      rw [Sem.run_bind, run_underlying Tryd.underlying47 w]
      rfl
    have hl2 : (loadCells ⟨b, off, none⟩ 2).run Tryd.prog w = _ := hl
    simp [loadVar, Sem.run_bind, hagg, sizeOf, typeInfo, hq, hs, hl2]
theorem quiet_load_span {o : Oper} {a : Act} {C : World → Prop} {K : Act → Prop} (x : Operand) (ho : o.op = .load 47 x) (b off : Nat) (f t : Int) (hx : a.eval x = .pointer (some ⟨b, off, none⟩))
    (h : ∀ w, C w → w.cell? ⟨b, off, none⟩ = some (.int .i64 f) ∧ w.cell? ⟨b, off + 1, none⟩ = some (.int .i64 t)) (hK : K (a.put o.dst (.agg #[.int .i64 f, .int .i64 t]))) : o.quiet Tryd.prog a C K :=
  ⟨.agg #[.int .i64 f, .int .i64 t], fun w hw => by
    unfold Oper.quietAt execOp
    simp only [ho, hx, Instr.loadAt, Instr.sureAddr, Sem.run_bind, Sem.run_pure, Result.andThen_ok, loadSpan (h w hw)]
    exact ⟨rfl, rfl⟩, hK⟩
/-- the same, the length told by another name -/
def SpPostN (w : World) (l : Sl) (n : Nat) (err : Int) (e : Ending) (w' : World) : Prop := ∃ a cap, e = .returned (.tuple #[.slice a n cap, .int .i64 err]) ∧ SpAt w' a cap l ∧ Below w.heap.size w w'
theorem SpPost.n {w w' : World} {l : Sl} {n : Nat} {err : Int} {e : Ending} (hn : l.length = n) (h : SpPost w l err e w') : SpPostN w l n err e w' := by
  subst hn; exact h
end V
end Go.Proofs.YtonhmjfopidacaaDoor
