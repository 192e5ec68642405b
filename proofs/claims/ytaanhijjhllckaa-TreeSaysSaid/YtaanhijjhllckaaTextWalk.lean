/- Undrawn regions of a great frame: an operation at a time in the text's order, each plain one by its one value (as in a quiet walk), any other carried out in the world at hand. -/
import Derived.Test.YtaanhijjhllckaaEager
import Derived.BigQuiet
namespace Go.Proofs.Ytaanhijjhllckaa
set_option maxRecDepth 100000
open Go.RowKit
section
variable {P : Program} {ops : Array Oper} {Q : Exit → Act → World → Prop} {a : Act} {w : World} {rest : List Oper} {o : Oper}
theorem text_skip (hw : Region.wanted o (yielded ops a.tmps) = false) (h : wpList P ops Q rest (a.put o.dst undef) w) : wpList P ops Q (o :: rest) a w := by
  unfold wpList
  rw [if_neg (by rw [hw]; exact Bool.false_ne_true)]
  exact h
theorem text_want (hw : Region.wanted o (yielded ops a.tmps) = true) (hp : plainOp o.op = true)
    (h : ∀ K : Act → Prop, (∀ a', wpList P ops Q rest a' w → K a') → o.quiet P a (fun w' => w' = w) K) : wpList P ops Q (o :: rest) a w := by
  obtain ⟨v, hv, hk⟩ := h _ (fun _ h => h)
  refine BigFrame.wpList_want hw fun K hK => ?_
  have h1 := hv w rfl
  unfold Oper.quietAt at h1
  unfold Oper.wp
  cases hr : (execOp a.eval o).run P w with
  | ok n w' =>
    obtain ⟨u, rfl⟩ := plain_value hp hr
    rw [hr] at h1
    simp only [Oper.quietUpon] at h1
    obtain ⟨rfl, rfl⟩ := h1
    rw [Oper.upon_value]
    exact hK _ _ hk
  | halt x w' => rw [hr] at h1; simp only [Oper.quietUpon] at h1
theorem wp_quiet {K : Act → World → Prop} (hp : plainOp o.op = true) (h : o.quiet P a (fun w' => w' = w) (fun a' => K a' w)) : o.wp P a w K Q := by
  obtain ⟨v, hv, hk⟩ := h
  have h1 := hv w rfl
  unfold Oper.quietAt at h1
  unfold Oper.wp
  cases hr : (execOp a.eval o).run P w with
  | ok n w' =>
    obtain ⟨u, rfl⟩ := plain_value hp hr
    rw [hr] at h1
    simp only [Oper.quietUpon] at h1
    obtain ⟨rfl, rfl⟩ := h1
    rw [Oper.upon_value]
    exact hk
  | halt x w' => rw [hr] at h1; simp only [Oper.quietUpon] at h1
theorem text_sole (hw : Region.wanted o (yielded ops a.tmps) = true) (h : ∀ K : Act → World → Prop, (∀ a' w', wpList P ops Q rest a' w' → K a' w') → o.wp P a w K Q) : wpList P ops Q (o :: rest) a w :=
  BigFrame.wpList_want hw fun _ hK => h _ hK
theorem text_hide {l : List Oper} (h : ∀ Q0 : Exit → Act → World → Prop, (∀ e a w, Q e a w → Q0 e a w) → wpList P ops Q0 l a w) : wpList P ops Q l a w := h Q (fun _ _ _ h => h)
theorem text_nil (h : Q .normal a w) : wpList P ops Q [] a w := h
end
end Go.Proofs.Ytaanhijjhllckaa
