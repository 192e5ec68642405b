/- The walks of List, Runs, Range, Of, All. -/
import Derived.Test.YtlgpbgcheeaalaaGreatDoorSetRead
import Derived.Deep.LoopGhost
namespace Go.Proofs.YtlgpbgcheeaalaaGreatDoor
set_option maxRecDepth 100000
open Go.RowKit

/-- a byte as the program holds it -/
def u8v (n : Nat) : Value := .int .u8 (n : Int)
/-- the call returns a new list of bytes -/
def ByteRow (w : World) (l : List Nat) (e : Ending) (w' : World) : Prop :=
  ∃ v, e = .returned v ∧ w'.ownsRow w.heap.size 5 1 v l.length (l.map u8v) ∧ Below w.heap.size w w'
theorem owns_form {w : World} {base : Nat} {e : TypeId} {size : Nat} {v : Value} {n : Nat} {xs : List Value} (h : w.ownsRow base e size v n xs) : ∃ a cap, v = .slice a n cap := by
  obtain ⟨_, ⟨rfl, rfl⟩ | ⟨g, cap, _, rfl, _⟩⟩ := h
  · exact ⟨_, _, rfl⟩
  · exact ⟨_, _, rfl⟩
theorem owns_mono {w : World} {base base' : Nat} {e : TypeId} {size : Nat} {v : Value} {n : Nat} {xs : List Value} (h : w.ownsRow base e size v n xs) (hb : base' ≤ base) : w.ownsRow base' e size v n xs := by
  obtain ⟨h1, h2⟩ := h
  refine ⟨h1, ?_⟩
  rcases h2 with h | ⟨g, c, cur, hv, hg, hr⟩
  · exact .inl h
  · exact .inr ⟨g, c, cur, hv, Nat.le_trans hb hg, hr⟩
theorem owns_below {w w' : World} {base : Nat} {e : TypeId} {size : Nat} {v : Value} {n : Nat} {xs : List Value} (h : w.ownsRow base e size v n xs) (hb : Below w.heap.size w w') : w'.ownsRow base e size v n xs := by
  obtain ⟨h1, h2 | ⟨g, cap, cur, hv, hg, hblk, hr⟩⟩ := h
  · exact ⟨h1, .inl h2⟩
  · exact ⟨h1, .inr ⟨g, cap, cur, hv, hg, by rw [hb.block g (lt_of_block hblk)]; exact hblk, hr⟩⟩
theorem info_u8 : (Tryz.prog.info? 5).map (fun i => (i.zero, i.size, i.bytes)) = some (some (.int .u8 0), 1, 1) := by kernel_rfl
theorem idx_any (s : BitVec 256) (k : Nat) (hk : k < 4) (w : World) : (Instr.index 27 (SV s) (.int .i64 k)).run Tryz.prog w = .ok (.int .u64 (word s k)) w := by
  have h : k = 0 ∨ k = 1 ∨ k = 2 ∨ k = 3 := by omega
  rcases h with rfl | rfl | rfl | rfl
  · exact idx0 _ _ _ _ w
  · exact idx1 _ _ _ _ w
  · exact idx2 _ _ _ _ w
  · exact idx3 _ _ _ _ w
/-- what the list's inner loop holds: l has what was told so far, y what is left of word k -/
def InList (w : World) (s : BitVec 256) (k : Nat) (v y : Value) (wr : World) : Prop :=
  ∃ (x : Nat) (pre : List Nat), x < 18446744073709551616 ∧ y = .int .u64 (x : Int) ∧ pre ++ ((bitsOf x).map (64 * k + ·) ++ wordsFrom s (k + 1)) = elems s ∧
    wr.ownsRow w.heap.size 5 1 v pre.length (pre.map u8v) ∧ Below w.heap.size w wr
def OutList (w : World) (s : BitVec 256) (v : Value) (k : Nat) (wr : World) : Prop :=
  ∃ (pre : List Nat), pre ++ wordsFrom s k = elems s ∧ wr.ownsRow w.heap.size 5 1 v pre.length (pre.map u8v) ∧ Below w.heap.size w wr
theorem in_start {w wr : World} {s : BitVec 256} {k : Nat} {v : Value} (h : OutList w s v k wr) (hk : k < 4) : InList w s k v (.int .u64 (word s k : Int)) wr := by
  obtain ⟨pre, he, ho, hb⟩ := h
  rw [wordsFrom_succ s k hk] at he
  exact ⟨word s k, pre, word_lt _ _, rfl, he, ho, hb⟩
theorem in_end {w wi : World} {s : BitVec 256} {k : Nat} {v : Value} {pre : List Nat} (he : pre ++ ((bitsOf 0).map (64 * k + ·) ++ wordsFrom s (k + 1)) = elems s)
    (ho : wi.ownsRow w.heap.size 5 1 v pre.length (pre.map u8v)) (hb : Below w.heap.size w wi) : OutList w s v (k + 1) wi := by
  rw [bitsOf_zero] at he
  exact ⟨pre, he, ho, hb⟩
theorem out_end {w wr : World} {s : BitVec 256} {v : Value} (h : OutList w s v 4 wr) : ByteRow w (elems s) (.returned v) wr := by
  obtain ⟨pre, he, ho, hb⟩ := h
  rw [wordsFrom_four, List.append_nil] at he
  subst he
  exact ⟨v, rfl, ho, hb⟩
theorem in_step {w wi w' : World} {s : BitVec 256} {k x : Nat} {v v' : Value} {pre : List Nat} {o : Obj} (he : pre ++ ((bitsOf x).map (64 * k + ·) ++ wordsFrom s (k + 1)) = elems s)
    (hx : x < 18446744073709551616) (h0 : x ≠ 0) (hb : Below w.heap.size w wi) (hown : wi.ownsRow w.heap.size 5 1 v pre.length (pre.map u8v))
    (hown' : w'.ownsRow w.heap.size 5 1 v' (pre.length + 1) (pre.map u8v ++ [u8v (64 * k + Lib.ctz 64 x)])) (hg : (wi.alloc o).grownBy w' v.ownBlock) :
    InList w s k v' (.int .u64 ((x &&& (x - 1) : Nat) : Int)) w' := by
  rw [bitsOf_cons x h0 hx] at he
  refine ⟨x &&& (x - 1), pre ++ [64 * k + Lib.ctz 64 x], Nat.lt_of_lt_of_le (drop_lt x h0) (Nat.le_of_lt hx), rfl, ?_, ?_, ?_⟩
  · rw [← he]; simp
  · rw [List.map_append, List.length_append]; exact hown'
  · exact (hb.alloc hb.size o).grown hg (by have := hb.size; simp; omega) (fun k hk => (hown.lt k hk).1)
set_option maxHeartbeats 1000000 in
theorem list_any (s : BitVec 256) (w : World) (hT : TabAt 0 Lib.deBruijn64tab w) :
    Calls Tryz.prog 93 #[SV s] w (ByteRow w (elems s)) := by
  have hlen := elems_length_le s
  obtain ⟨i0, hi, hz0, hz1, hz2⟩ := info_parts info_u8
  go_enter Tryz.func93, Tryz.ntmps93
  go_wp2_with (first
    | (go_at_call 58; refine (len_any s _).mono ?_; rintro e w1 ⟨rfl, hb1⟩)
    | (at_make; refine wpList_make_own _ rfl _ _ 75 rfl w.heap.size 5 i0 (.int .u8 0) 1 Tryz.underlying75 hi hz0 hz1 .i64 .i64 _ (elems s).length rfl rfl rfl (by rw [hz2]; omega) (by unfold maxLen; omega) (by have := hb1.size; simp at this; omega) ?_; intro w2 hown2 hgrow2; have hb2 := hb1.grown hgrow2 hb1.size (fun k h => by cases h); obtain ⟨hc2, hf2⟩ := bcell hb2))
  have hw : OutList w s (Value.slice (some { block := w1.heap.size, off := 0 }) 0 (elems s).length) 0 w2 :=
    ⟨[], wordsFrom_zero s, hown2, ((Below.refl _ _).alloc (Nat.le_refl _) _).trans (hb2.mono (by simp))⟩
  clear hb1 hb2 hown2 hgrow2 hc2 hf2
  go_loopw [3, 10] (fun v i wr => ∃ k : Nat, k ≤ 4 ∧ i = .int .i64 k ∧ OutList w s v k wr) (fun _ i _ => 4 - (intOf i).toNat)
  case atStart => exact ⟨0, by omega, rfl, hw⟩
  case round =>
    obtain ⟨k, hk, rfl, hrel⟩ := hrel
    clear hw
    obtain ⟨wo, rfl⟩ : ∃ wo : World, wo = wr := ⟨_, rfl⟩
    by_cases hlt : k < 4
    · have ik := idx_any s k hlt
      have hd : decide ((k : Int) < 4) = true := by simp; omega
      go_wp2
      go_loopw [3, 5] (fun v y wr => InList w s k v y wr) (fun _ y _ => (intOf y).toNat)
      case atStart => exact in_start hrel hlt
      case round =>
        obtain ⟨x, pre, hx, rfl, heq, hown, hb⟩ := hrel
        obtain ⟨wi, rfl⟩ : ∃ wi : World, wi = wr := ⟨_, rfl⟩
        clear hrel
        have hle : pre.length ≤ 256 := by rw [← heq, List.length_append] at hlen; omega
        have hTi := tab_below hT hb (tab_pos hT)
        have Heq := Lib.hid heq
        clear heq
        by_cases h0 : x = 0
        · subst h0
          have hz : (((0 : Nat) : Int) != 0) = false := rfl
          have hfin : OutList w s u3 (k + 1) wi := in_end Heq.out hown hb
          clear hown hb hTi Heq
          go_wp2
          go_roundw
          case rel => exact ⟨k + 1, by omega, by go_num, hfin⟩
          case measure => simp [intOf]; omega
        · have hne := ne_bool x h0
          have hc := lowest_any k x _ rfl hlt hx h0 wi hTi
          have hsub : IntKind.u64.wrap ((x : Int) - 1) = ((x - 1 : Nat) : Int) := by rw [IntKind.wrap_u64]; omega
          have hand : bits .and .u64 (x : Int) ((x - 1 : Nat) : Int) = ((x &&& (x - 1) : Nat) : Int) := bits_and_nat _ _ hx (by omega)
          go_wp2_with (first
            | (go_at_call 115; refine hc.mono ?_; rintro e w' ⟨rfl, rfl⟩)
            | (at_builtin; refine wpList_append_own _ rfl _ _ 75 rfl w.heap.size 5 i0 (.int .u8 0) 1 1 Tryz.underlying75 hi hz0 hz1 hz2 rfl (by decide) _ _ _ rfl (hown.alloc _) ⟨wi.heap.size, 0, none⟩ 1 1 [u8v (64 * k + Lib.ctz 64 x)] rfl rfl ?c1 ?c2 ?c3 ?c4 ?c5 ?_))
          case c1 => exact cell_one_new _ _ _
          case c2 => intro u hu; simp at hu; subst hu; rfl
          case c3 => unfold maxLen; omega
          case c4 => omega
          case c5 => have := hb.size; simp; omega
          intro v' w' hown' hgrow _
          have hfin := in_step Heq.out hx h0 hb hown hown' hgrow
          clear hown hown' hgrow
          go_wp2
          go_roundw
          case rel => exact hfin
          case measure => have := drop_lt x h0; simp [intOf]; omega
    · have hd : decide ((k : Int) < 4) = false := by simp; omega
      obtain rfl : k = 4 := by omega
      go_wp2
      go_ret
      exact out_end hrel
end Go.Proofs.YtlgpbgcheeaalaaGreatDoor
