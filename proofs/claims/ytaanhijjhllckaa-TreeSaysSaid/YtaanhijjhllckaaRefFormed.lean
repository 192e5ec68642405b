/- The document's own formed, walked. -/
import Derived.Test.YtaanhijjhllckaaRefFormA
import Derived.Test.YtaanhijjhllckaaRefFormB
import Derived.Test.YtaanhijjhllckaaRefFormC
import Derived.Test.YtaanhijjhllckaaRefFormD
namespace Go.Proofs.Ytaanhijjhllckaa
set_option maxRecDepth 100000
open Go.RowKit
theorem refFormed_any : ∀ (m : Nat) (x : Nd) (cs : List Value) (w : World) (R next : Nat), x.count ≤ m → next + x.count ≤ 1000000 → RefOff R w x cs → RInt w R next →
    Calls Try.prog 20 #[.agg cs.toArray, .pointer (some ⟨R, 0, none⟩)] w (FPost w R (x.form next))
  | 0, x, _, _, _, _, h, _, _, _ => absurd (Nd.count_pos x) (by omega)
  | m + 1, .mk k s lo hi n l, cs, w, R, next, hm, hnx, hat, hR => by
    by_cases h2 : k = 2
    · exact refFormA_any m (refFormed_any m) k s lo hi n l h2 cs w R next hm hnx hat hR
    by_cases h3 : k = 3
    · exact refFormB_any m (refFormed_any m) k s lo hi n l h3 cs w R next hm hnx hat hR
    by_cases h4 : k = 4
    · exact refFormC_any m (refFormed_any m) k s lo hi n l h4 cs w R next hm hnx hat hR
    · exact refFormD_any m (refFormed_any m) k s lo hi n l ⟨h2, h3, h4⟩ cs w R next hm hnx hat hR
end Go.Proofs.Ytaanhijjhllckaa
