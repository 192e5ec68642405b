/- What is not big and not wide is slim: the laws' own coreOf and valueOf may be walked. -/
import Derived.Test.YtblgjcolmaidlaaRefVals
import Derived.Test.YtblgjcolmaidlaaValWide
import Derived.Test.YtblgjcolmaidlaaCoreBig
namespace Go.Proofs.Ytblgjcolmaidlaa
set_option maxRecDepth 100000
theorem K.slim_of_big : ∀ (f : Nat) (x : K.Cr), K.bigN f x = false → K.slimN f x = true
  | 0, x, h => by rw [K.bigN] at h; cases h
  | f + 1, .mk k s n l, h => by
    rw [K.bigN, Bool.or_eq_false_iff, decide_eq_false_iff_not, List.any_eq_false] at h
    rw [K.slimN, Bool.and_eq_true, decide_eq_true_eq, List.all_eq_true]
    exact ⟨by omega, fun y hy => K.slim_of_big f y (by have := h.2 y hy; simpa using this)⟩
theorem V.slim_of_wide : ∀ (f : Nat) (x : V.Vl), V.wideN f x = false → V.slimV f x = true
  | 0, x, h => by rw [V.wideN] at h; cases h
  | f + 1, .mk k z l, h => by
    rw [V.wideN, Bool.or_eq_false_iff, decide_eq_false_iff_not, List.any_eq_false] at h
    rw [V.slimV, Bool.and_eq_true, decide_eq_true_eq, List.all_eq_true]
    exact ⟨by omega, fun y hy => V.slim_of_wide f y (by have := h.2 y hy; simpa using this)⟩
end Go.Proofs.Ytblgjcolmaidlaa
