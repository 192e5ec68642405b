/- What Get answers is slim: the law's own valueOf may be walked on it. The answers of the document's own Bits and Get, named. -/
import Derived.Test.YtklmomgccmekkaaBitsLaw
import Derived.Test.YtklmomgccmekkaaRefBits
import Derived.Test.YtklmomgccmekkaaRefGots
import Derived.Test.YtklmomgccmekkaaValWS
import Derived.Test.YtklmomgccmekkaaClosed
namespace Go.Proofs.Ytklmomgccmekkaa
namespace V
set_option maxRecDepth 100000
open Go.RowKit
theorem slim_of_count : ∀ (m : Nat) (v : Vl), v.count ≤ m → m ≤ 1000000 → slimV m v = true
  | 0, v, h, _ => absurd (Vl.count_pos v) (by omega)
  | m + 1, .mk k z l, h, hm => by
    rw [count_mk] at h
    rw [slimV, Bool.and_eq_true, decide_eq_true_eq, List.all_eq_true]
    refine ⟨by have := counts_len l; omega, fun y hy => slim_of_count m y (by have := counts_mem hy; omega) (by omega)⟩
theorem resG_count (c : K.Cr) (bs s : List Nat) : (resG c bs s).1.count ≤ 2000 * (bs.length + 1) := by
  by_cases h : (resG c bs s).2 = 0
  · obtain ⟨_, _, v, h1, _, _, _, _, h2⟩ := resG_yes h
    rw [h1]
    exact h2
  · have e : (resG c bs s).1 = v0 := by
      unfold resG at h ⊢
      cases hd : (decide (256 < s.length) || !K.goodC c) with
      | true => rfl
      | false =>
        rw [hd] at h
        cases hv : getV c bs s with
        | none => rfl
        | some v => rw [hv] at h; exact absurd rfl h
    rw [e]
    show 1 + counts [] ≤ _
    rw [counts_nil]
    omega
theorem rbits_y {v : Vl} {ds : List Value} {w : World} {t : ByteArray} (hv : Vl.at w v ds) (ht : nats t = v.put) (hb : v.count ≤ 1048576) :
    Calls Try.prog 24 #[.agg ds.toArray] w fun e w' => e = .returned (.string t) ∧ Below w.heap.size w w' := by
  refine (refBits_any v.count v ds w (Nat.le_refl _) hv (by have := put_le v; omega)).mono ?_
  rintro e w3 ⟨⟨t', rfl, ht'⟩, hb⟩
  exact ⟨by rw [of_nats (ht'.trans ht.symm)], hb⟩
theorem vof_y {m : Nat} {u : Vl} {es : List Value} {w : World} (hu : Vl.at w u es) (hs : slimV m u = true) :
    Calls Try.prog 25 #[.agg es.toArray] w fun e w' => (∃ zs : List Value, e = .returned (.agg zs.toArray) ∧ Vl.at w' u zs) ∧ Below w.heap.size w w' := by
  refine (lawVal_any m u es w hs hu).mono ?_
  rintro e w' ⟨rs, rfl, h, hb⟩
  exact ⟨⟨rs, rfl, h.ref⟩, hb⟩
theorem vsame_y {u : Vl} {es ds : List Value} {w : World} (hu : Vl.at w u es) (hd : Vl.at w u ds) :
    Calls Try.prog 26 #[.agg es.toArray, .agg ds.toArray] w fun e w' => e = .returned (.bool true) ∧ Below w.heap.size w w' := by
  have h := refVSame_any u.count u u es ds w (Nat.le_refl _) hu hd
  rw [Vl.same_refl] at h
  exact h
theorem wp_load_rvk {o : Oper} {a : Act} {w : World} {K : Act → World → Prop} {Q : Exit → Act → World → Prop} (x : Operand) (ho : o.op = .load 47 x) (b off : Nat) (cs : List Value) (hx : a.eval x = .pointer (some ⟨b, off, none⟩)) (hc : Val3 w b off cs)
    (h : K (a.put o.dst (.agg cs.toArray)) w) : o.wp Try.prog a w K Q := by
  unfold Oper.wp execOp
  simp only [ho, hx, Instr.loadAt, Instr.sureAddr, Sem.run_bind, Sem.run_pure, Result.andThen_ok, loadRefVal hc]
  exact h
end V
end Go.Proofs.Ytklmomgccmekkaa
