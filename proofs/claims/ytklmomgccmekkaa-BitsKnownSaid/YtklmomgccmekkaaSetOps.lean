/- The walks of Or, And, Not, Minus, All, Has. -/
import Derived.Test.YtklmomgccmekkaaPop
import Derived.WalkKit
import Derived.WalkSpells
import Derived.WalkLawsBesides
import Derived.BigRegion
import Derived.Lib.Hide
import Derived.Deep.RegionWith
import Derived.Deep.RegionHeld3
import Derived.BigQuiet
import Derived.Deep.QuietTactic
namespace Go.Proofs.Ytklmomgccmekkaa
set_option maxRecDepth 100000
open Go.RowKit
theorem bcell {W w1 : World} (hb : Below W.heap.size W w1) : (∀ b o, b < W.heap.size → w1.cell? ⟨b, o, none⟩ = W.cell? ⟨b, o, none⟩) ∧ (∀ b o, b < W.heap.size → w1.frozen? ⟨b, o, none⟩ = W.frozen? ⟨b, o, none⟩) :=
  ⟨fun b o h => hb.cell (p := ⟨b, o, none⟩) h, fun b o h => hb.frozen (p := ⟨b, o, none⟩) h⟩
set_option maxHeartbeats 1000000 in
theorem has_any (s : BitVec 256) (b : Nat) (hb : b < 256) (w : World) :
    Calls Try.prog 78 #[SV s, .int .u8 b] w fun e w' => e = .returned (.bool (s.getLsbD b)) ∧ Below w.heap.size w w' := by
  have h : b / 64 = 0 ∨ b / 64 = 1 ∨ b / 64 = 2 ∨ b / 64 = 3 := by omega
  rcases h with h | h | h | h
  all_goals
    have hw := Lib.hid (has_word s b _ h)
    go_enter Try.func78, Try.ntmps78
    go_wp2
    rw [hw.out]
    go_ret
    exact ⟨rfl, (Below.refl _ _).alloc (Nat.le_refl _) _⟩
set_option maxHeartbeats 1000000 in
theorem ones_walk (x x1 x2 y2 x3 x4 x5 x6 d : Nat) (w : World)
    (k1 : IntKind.u64.wrap (bits .and .u64 ((x : Int) / 2) 6148914691236517205 + bits .and .u64 (x : Int) 6148914691236517205) = (x1 : Int))
    (k2 : IntKind.u64.wrap (bits .and .u64 ((x1 : Int) / 4) 3689348814741910323 + bits .and .u64 (x1 : Int) 3689348814741910323) = (x2 : Int))
    (k3 : IntKind.u64.wrap ((x2 : Int) / 16 + (x2 : Int)) = (y2 : Int))
    (k3' : bits .and .u64 (y2 : Int) 1085102592571150095 = (x3 : Int))
    (k4 : IntKind.u64.wrap ((x3 : Int) + (x3 : Int) / 256) = (x4 : Int))
    (k5 : IntKind.u64.wrap ((x4 : Int) + (x4 : Int) / 65536) = (x5 : Int))
    (k6 : IntKind.u64.wrap ((x5 : Int) + (x5 : Int) / 4294967296) = (x6 : Int))
    (k7 : bits .and .i64 (wrap64 (x6 : Int)) 127 = (d : Int)) :
    Calls Try.prog 86 #[.int .u64 x] w fun e w' => e = .returned (.int .i64 d) ∧ w = w' := by
  go_enter Try.func86, Try.ntmps86
  go_wp2
  go_ret
  exact ⟨by rw [← k7]; rfl, rfl⟩
theorem ones_any (x : Nat) (hx : x < 18446744073709551616) (w : World) :
    Calls Try.prog 86 #[.int .u64 x] w fun e w' => e = .returned (.int .i64 (digs 1 64 x)) ∧ w = w' := by
  obtain ⟨h1, h2, h3, _, h5, h6⟩ := ones x hx
  obtain ⟨h7, h8, h9, h10⟩ := ones_end _ h5
  rw [h6] at h10
  refine ones_walk x _ _ _ _ _ _ _ _ w (step_and x 2 _ (by decide) hx h1) (step_and _ 4 _ (by decide) h1 h2) (step_add' _ 16 h3) (bits_and_nat _ _ h3 (by decide)) (step_add _ 256 h7) (step_add _ 65536 h8) (step_add _ 4294967296 h9) ?_
  rw [step_end _ h9, h10]
end Go.Proofs.Ytklmomgccmekkaa
