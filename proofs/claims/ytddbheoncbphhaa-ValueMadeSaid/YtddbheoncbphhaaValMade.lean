/- Values put together, of cores put together. -/
import Derived.Test.YtddbheoncbphhaaValFacts
import Derived.Test.YtddbheoncbphhaaCoreGood
import Derived.IntWalk
namespace Go.Proofs.Ytddbheoncbphhaa
namespace V
set_option maxRecDepth 100000
open Go.RowKit
theorem good_seq {x y : K.Cr} (h : K.goodC (.mk 3 0 0 [x, y]) = true) : x.count + y.count < 2000 ∧ x.form = true ∧ y.form = true := by
  unfold K.goodC at h
  rw [Bool.and_eq_true, decide_eq_true_eq, K.count_mk, K.form_mk, Bool.and_eq_true, K.counts_cons, K.counts_cons, K.counts_nil, K.forms_cons, K.forms_cons, K.forms_nil, Bool.and_eq_true, Bool.and_true] at h
  exact ⟨by omega, h.2.2.1, h.2.2.2⟩
theorem good_one {x : K.Cr} (h1 : x.count < 2000) (h2 : x.form = true) : K.goodC x = true := by
  unfold K.goodC
  rw [h2, Bool.and_true, decide_eq_true_eq]; omega
theorem good_mk1 {k n : Int} {x : K.Cr} (hp : K.partOk k 0 n 1 = true) (h1 : x.count < 2000) (h2 : x.form = true) : K.goodC (.mk k 0 n [x]) = true := by
  unfold K.goodC
  rw [K.count_mk, K.form_mk, K.counts_cons, K.counts_nil, K.forms_cons, K.forms_nil, h2, show ([x] : List K.Cr).length = 1 from rfl, hp, Bool.and_true, Bool.and_true, Bool.and_true, decide_eq_true_eq]; omega
theorem good_mk2 {k : Int} {x y : K.Cr} (hp : K.partOk k 0 0 2 = true) (h1 : x.count + y.count < 2000) (h2 : x.form = true) (h3 : y.form = true) : K.goodC (.mk k 0 0 [x, y]) = true := by
  unfold K.goodC
  rw [K.count_mk, K.form_mk, K.counts_cons, K.counts_cons, K.counts_nil, K.forms_cons, K.forms_cons, K.forms_nil, h2, h3, show ([x, y] : List K.Cr).length = 2 from rfl, hp, Bool.and_true, Bool.and_true, Bool.and_true, Bool.and_true, decide_eq_true_eq]; omega
theorem goodV_of {x : K.Cr} (h : K.goodC x = true) (v : Vl) : goodV x v = bel x v := by unfold goodV; rw [h, Bool.true_and]
theorem made_seq {x y : K.Cr} (h : K.goodC (.mk 3 0 0 [x, y]) = true) (v u : Vl) : goodV (.mk 3 0 0 [x, y]) (.mk 3 0 [v, u]) = (goodV x v && goodV y u) := by
  obtain ⟨h1, h2, h3⟩ := good_seq h
  rw [goodV_of h, goodV_of (good_one (by omega) h2), goodV_of (good_one (by omega) h3), bel_mk, belT_else (by decide)]
  simp [formV, belK]
theorem made_left {x y : K.Cr} (h : K.goodC (.mk 3 0 0 [x, y]) = true) (v : Vl) : goodV (.mk 4 0 0 [x, y]) (.mk 4 0 [v]) = goodV x v := by
  obtain ⟨h1, h2, h3⟩ := good_seq h
  rw [goodV_of (good_mk2 rfl h1 h2 h3), goodV_of (good_one (by omega) h2), bel_mk, belT_else (by decide)]
  simp [formV, belK]
theorem made_right {x y : K.Cr} (h : K.goodC (.mk 3 0 0 [x, y]) = true) (u : Vl) : goodV (.mk 4 0 0 [x, y]) (.mk 5 0 [u]) = goodV y u := by
  obtain ⟨h1, h2, h3⟩ := good_seq h
  rw [goodV_of (good_mk2 rfl h1 h2 h3), goodV_of (good_one (by omega) h3), bel_mk, belT_else (by decide)]
  simp [formV, belK]
theorem made_star {x y : K.Cr} (h : K.goodC (.mk 3 0 0 [x, y]) = true) (v : Vl) : goodV (.mk 5 0 0 [x]) (.mk 6 0 [v, v]) = goodV x v := by
  obtain ⟨h1, h2, h3⟩ := good_seq h
  have := K.Cr.count_pos y
  rw [goodV_of (good_mk1 rfl (by omega) h2), goodV_of (good_one (by omega) h2), bel_mk, belT_else (by decide)]
  simp [formV, belK]
theorem made_grp {x y : K.Cr} (h : K.goodC (.mk 3 0 0 [x, y]) = true) (v : Vl) : goodV (.mk 6 0 1 [x]) (.mk 7 0 [v]) = goodV x v := by
  obtain ⟨h1, h2, h3⟩ := good_seq h
  have := K.Cr.count_pos y
  rw [goodV_of (good_mk1 rfl (by omega) h2), goodV_of (good_one (by omega) h2), bel_mk, belT_else (by decide)]
  simp [formV, belK]
theorem made_anew {x y : K.Cr} (h : K.goodC (.mk 3 0 0 [x, y]) = true) (v : Vl) : goodV (.mk 7 0 0 [x]) v = goodV x v := by
  obtain ⟨h1, h2, h3⟩ := good_seq h
  have := K.Cr.count_pos y
  rw [goodV_of (good_mk1 rfl (by omega) h2), goodV_of (good_one (by omega) h2), bel_mk, belT_seven]
  rfl
theorem wrap_in (n : Int) : -9223372036854775808 ≤ wrap64 n ∧ wrap64 n ≤ 9223372036854775807 := by
  unfold wrap64; omega
theorem fold_in (k : Int) : ∀ (L : List (Int × Bool)) (a : Int × Bool), (-9223372036854775808 ≤ a.1 ∧ a.1 ≤ 9223372036854775807) → -9223372036854775808 ≤ (L.foldl (stepM k) a).1 ∧ (L.foldl (stepM k) a).1 ≤ 9223372036854775807
  | [], _, h => h
  | _ :: L, _, _ => fold_in k L _ (wrap_in _)
theorem meas_in (v : Vl) : -9223372036854775808 ≤ v.meas.1 ∧ v.meas.1 ≤ 9223372036854775807 := by
  cases v with
  | mk k b l =>
    rw [meas_mk]
    split
    · decide
    · exact fold_in k _ _ (by decide)
theorem meas_row (v u : Vl) : (Vl.mk 3 0 [v, u]).meas.1 = wrap64 (v.meas.1 + u.meas.1) := by
  rw [meas_mk, if_neg (by decide)]
  show wrap64 (wrap64 (0 + v.meas.1) + u.meas.1) = _
  rw [Int.zero_add, IntWalk.wrap64_in _ (meas_in v)]
end V
end Go.Proofs.Ytddbheoncbphhaa
