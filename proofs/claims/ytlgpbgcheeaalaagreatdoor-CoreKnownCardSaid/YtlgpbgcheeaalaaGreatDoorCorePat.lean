/- What laws on cores of parsed patterns lean on. -/
import Derived.Test.YtlgpbgcheeaalaaGreatDoorCoreThree
namespace Go.Proofs.YtlgpbgcheeaalaaGreatDoor
open K
set_option maxRecDepth 100000
open Go.RowKit
/-- what parse.Of hands back, the pattern's cells written out -/
def PatAny (w : World) (r : PO) (e : Ending) (w' : World) : Prop :=
  ∃ (st en : Bool) (k : Int) (s : BitVec 256) (lo hi n : Int) (a : Option Addr) (len cap : Nat) (g m E : Int), e = .returned (.tuple #[.agg #[.bool st, .bool en, .int .i64 k, .int .u64 (word s 0), .int .u64 (word s 1), .int .u64 (word s 2), .int .u64 (word s 3), .int .i64 lo, .int .i64 hi, .int .i64 n, .slice a len cap, .int .i64 g], .int .i64 m, .int .i64 E]) ∧
    Below w.heap.size w w' ∧ Hid (match r with
      | .err _ e' => E = e'
      | .ok st' en' x g' => E = 0 ∧ st = st' ∧ en = en' ∧ g = (g' : Int) ∧ Nd.at w' x [.int .i64 k, .int .u64 (word s 0), .int .u64 (word s 1), .int .u64 (word s 2), .int .u64 (word s 3), .int .i64 lo, .int .i64 hi, .int .i64 n, .slice a len cap])
theorem parse_any (s : ByteArray) (w : World) (hM : MaxAt w) : Calls Tryz.prog 30 #[.string s] w (PatAny w (ofP cls (nats s))) := by
  refine (of_walk s w hM).mono fun e w' h => ?_
  cases hr : ofP cls (nats s) with
  | err k e' =>
    rw [hr] at h
    obtain ⟨h1, h2⟩ := h
    refine ⟨false, false, 0, 0, 0, 0, 0, none, 0, 0, 0, k, e', ?_, h2, rfl⟩
    rw [h1]
    simp only [word_zero]
    rfl
  | ok st en x g =>
    rw [hr] at h
    obtain ⟨cs, h1, h2, h3⟩ := h
    obtain ⟨k, s', lo, hi, n, a, len, cap, rfl⟩ := Nd.lit h2
    exact ⟨st, en, k, s', lo, hi, n, a, len, cap, (g : Int), _, 0, h1, h3, rfl, rfl, rfl, rfl, h2⟩
theorem pat_cells8 {W : World} {b : Nat} {c0 c1 c2 c3 c4 c5 c6 c7 c8 c9 c10 c11 : Value} (h : PatIn W b #[c0, c1, c2, c3, c4, c5, c6, c7, c8, c9, c10, c11]) : W.cell? ⟨b, 0, none⟩ = some c0 ∧ W.cell? ⟨b, 1, none⟩ = some c1 ∧ W.cell? ⟨b, 11, none⟩ = some c11 := by
  refine ⟨?_, ?_, ?_⟩ <;> (rw [cells_at h]; rfl)
theorem bracket_ok8 {q : List Nat} {X Y : Nd} {g h : Nat} {st en : Bool} (hx : ofP cls q = .ok false false X g) (hl : q.length ≤ 1020) (hr : ofP cls (40 :: 63 :: 58 :: (q ++ [41])) = .ok st en Y h) : st = false ∧ en = false ∧ Y = .mk 6 0 0 0 0 [X] ∧ h = g := by
  rw [of_bracket hx hl] at hr
  split at hr
  · injection hr with h1 h2 h3 h4
    exact ⟨h1.symm, h2.symm, h3.symm, h4.symm⟩
  · cases hr
theorem of_few {q : List Nat} {st en : Bool} {X : Nd} {g : Nat} (h : ofP cls q = .ok st en X g) : (g : Int) ≤ 32 := by
  have hg := of_good8 h
  unfold goodP at hg
  simp only [Bool.and_eq_true] at hg
  have h3 := hg.2
  cases hf : X.form 1 with
  | none => rw [hf] at h3; cases h3
  | some m => rw [hf] at h3; simp at h3; omega
theorem core_two (k k' : Int) (X Y : Nd) (h : (k = 2 ∧ k' = 3) ∨ (k = 3 ∧ k' = 4)) : Nd.core (.mk k 0 0 0 0 [X, Y]) = .mk k' 0 0 [Nd.core X, Nd.core Y] := by
  rw [core_mk, cores_cons, cores_cons, cores_nil]
  rcases h with ⟨rfl, rfl⟩ | ⟨rfl, rfl⟩
  · rw [if_neg (by decide), if_pos rfl]; rfl
  · rw [if_neg (by decide), if_neg (by decide), if_pos rfl]; rfl
theorem row_at {W : World} {g : Nat} {k : Int} (hk : fits64 k) {x y : Cr} {cs ds : List Value} (hx : Cr.at W x cs) (hy : Cr.at W y ds) (hb : W.heap[g]? = some (.cells (cs ++ ds).toArray 30)) :
    Cr.at W (.mk k 0 0 [x, y]) [.int .i64 k, .int .u64 0, .int .u64 0, .int .u64 0, .int .u64 0, .int .i64 0, .slice (some ⟨g, 0, none⟩) 2 2] := by
  have h := K.at_made (n := 0) hk rfl [(x, cs), (y, ds)] (by simp [maxLen]) (by
    intro p hp
    rcases List.mem_cons.1 hp with rfl | hp
    · exact hx
    · rw [List.mem_singleton] at hp; subst hp; exact hy) (by rw [show ([(x, cs), (y, ds)] : List (Cr × List Value)).flatMap (·.2) = cs ++ ds from by simp]; exact hb)
  simpa using h
end Go.Proofs.YtlgpbgcheeaalaaGreatDoor
