/- The walk of the document's own List. -/
import Derived.Test.YtnhlopbpggdneaaDoorRefArr
import Derived.Test.YtnhlopbpggdneaaDoorSetBuild
namespace Go.Proofs.YtnhlopbpggdneaaDoor
open Go.RowKit

/-- the bytes below k that f holds -/
def below (f : Nat → Bool) (k : Nat) : List Nat := (List.range k).filter f
theorem below_succ (f : Nat → Bool) (k : Nat) : below f (k + 1) = if f k then below f k ++ [k] else below f k := by
  unfold below
  rw [List.range_succ, List.filter_append]
  by_cases h : f k = true
  · simp [h]
  · simp [h]
theorem below_len (f : Nat → Bool) (k : Nat) : (below f k).length ≤ k := by
  unfold below
  exact Nat.le_trans (List.length_filter_le _ _) (by simp)
/-- what the loop of List holds -/
def Listing (w1 : World) (f : Nat → Bool) (k : Nat) (v : Value) (wr : World) : Prop :=
  wr.ownsRow w1.heap.size 5 1 v (below f k).length ((below f k).map u8v) ∧ Below w1.heap.size w1 wr
theorem listing_same {w1 wr : World} {f : Nat → Bool} {k : Nat} {v : Value} (h : Listing w1 f k v wr) (hno : f k = false) : Listing w1 f (k + 1) v wr := by
  unfold Listing
  rw [below_succ, if_neg (by simp [hno])]
  exact h
theorem listing_step {w1 wr w' : World} {f : Nat → Bool} {k : Nat} {v v' : Value} {o : Obj} (h : Listing w1 f k v wr) (hyes : f k = true)
    (hown : w'.ownsRow w1.heap.size 5 1 v' ((below f k).length + 1) ((below f k).map u8v ++ [u8v k])) (hg : (wr.alloc o).grownBy w' v.ownBlock) : Listing w1 f (k + 1) v' w' := by
  refine ⟨?_, (h.2.alloc h.2.size o).grown hg (by have := h.2.size; simp; omega) (fun k hk => (h.1.lt k hk).1)⟩
  rw [below_succ, if_pos hyes, List.map_append, List.length_append]
  exact hown
set_option maxHeartbeats 2000000 in
theorem refList_any (f : Nat → Bool) (w : World) : Calls Tryd.prog 18 #[BV f] w (ByteRow w (below f 256)) := by
  obtain ⟨i0, hi, hz0, hz1, hz2⟩ := info_parts info_u8
  go_enter Tryd.func18, Tryd.ntmps18
  have hb1 : BAt (w.alloc (.cells (bc f) 38)) w.heap.size f := BAt.start w _ f rfl _ rfl
  have hB : Below w.heap.size w (w.alloc (.cells (bc f) 38)) := (Below.refl _ _).alloc (Nat.le_refl _) _
  have hsz : (w.alloc (.cells (bc f) 38)).heap.size = w.heap.size + 1 := by simp
  go_wp2_with fail
  generalize w.alloc (.cells (bc f) 38) = w1 at *
  have HS := Lib.hid hsz
  clear hsz
  go_loopw [3, 4] (fun v i wr => ∃ k : Nat, k ≤ 256 ∧ i = .int .i64 k ∧ Listing w1 f k v wr) (fun _ i _ => 256 - (intOf i).toNat)
  case atStart => exact ⟨0, by omega, rfl, World.ownsRow_nil _ _ _ _, Below.refl _ _⟩
  case round =>
    obtain ⟨k, hk, rfl, hr⟩ := hrel
    by_cases hkl : k < 256
    · have hd : decide ((k : Int) < 256) = true := by simp; omega
      have hbr := hb1.below hr.2 (by have := HS.out; omega)
      have hc := hbr.cell k hkl
      have hlen := below_len f k
      have hown := hr.1
      have hsame := Lib.hid (listing_same hr)
      have hstep := Lib.hid fun hy (w' : World) (v' : Value) (o : Obj) => listing_step (w' := w') (v' := v') (o := o) hr hy
      have hrs := hr.2.size
      generalize below f k = pre at hown hstep hlen
      have h8 : (k : Int) % 256 = k := by omega
      clear hbr hr
      by_cases hf : f k = true
      · rw [hf] at hc
        go_wp2_with (at_builtin; refine wpList_append_own _ rfl _ _ 33 rfl w1.heap.size 5 i0 (.int .u8 0) 1 1 Tryd.underlying33 hi hz0 hz1 hz2 rfl (by decide) _ _ _ rfl (hown.alloc _) ⟨wr.heap.size, 0, none⟩ 1 1 [u8v k] rfl rfl ?c1 ?c2 ?c3 ?c4 ?c5 ?_)
        case c1 => first | exact cell_one_new _ _ _ | (intro j u h; exact h)
        case c2 => first | rfl | (intro u hu; simp at hu; subst hu; rfl)
        case c3 => unfold maxLen; omega
        case c4 => omega
        case c5 => first | omega | (simp; omega)
        intro v' w' hown' hgrow _
        have hfin := hstep.out hf w' v' _ hown' hgrow
        clear hown hown' hgrow hstep hsame
        go_wp2_with fail
        go_roundw
        case rel => exact ⟨k + 1, by omega, by go_num, hfin⟩
        case measure => simp [intOf]; omega
      · replace hf : f k = false := by simpa using hf
        rw [hf] at hc
        have hfin := hsame.out hf
        clear hown hstep hsame
        go_wp2_with fail
        go_roundw
        case rel => exact ⟨k + 1, by omega, by go_num, hfin⟩
        case measure => simp [intOf]; omega
    · have hd : decide ((k : Int) < 256) = false := by simp; omega
      obtain rfl : k = 256 := by omega
      clear hb1
      go_wp2_with fail
      go_ret
      exact ⟨_, rfl, owns_mono hr.1 (by have := HS.out; omega), hB.trans (hr.2.mono (by have := HS.out; omega))⟩
theorem below_all (s : BitVec 256) : below s.getLsbD 256 = elems s := rfl
end Go.Proofs.YtnhlopbpggdneaaDoor
