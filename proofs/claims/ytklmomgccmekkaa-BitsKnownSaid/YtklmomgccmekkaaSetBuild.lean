/- The walks of Of, Range, All. -/
import Derived.Test.YtklmomgccmekkaaSetMake
import Derived.OneCell
import Derived.BigRegion
namespace Go.Proofs.Ytklmomgccmekkaa
set_option maxRecDepth 100000
open Go.RowKit

/-- the set of the listed bytes -/
def setOf (l : List Nat) : BitVec 256 := l.foldl (fun s x => s ||| BitVec.twoPow 256 x) 0
theorem setOf_snoc (l : List Nat) (x : Nat) : setOf (l ++ [x]) = setOf l ||| BitVec.twoPow 256 x := by simp [setOf]
theorem setOf_bit (l : List Nat) (b : Nat) (hb : b < 256) : (setOf l).getLsbD b = decide (b ∈ l) := by
  have h : ∀ (l : List Nat) (s : BitVec 256), (l.foldl (fun s x => s ||| BitVec.twoPow 256 x) s).getLsbD b = (s.getLsbD b || decide (b ∈ l)) := by
    intro l
    induction l with
    | nil => intro s; simp
    | cons x l ih =>
      intro s
      rw [List.foldl_cons, ih, BitVec.getLsbD_or, BitVec.getLsbD_twoPow, Bool.or_assoc]
      congr 1
      rw [Bool.eq_iff_iff]
      simp only [Bool.or_eq_true, Bool.and_eq_true, decide_eq_true_eq, List.mem_cons]
      constructor
      · rintro (⟨_, h⟩ | h)
        · exact Or.inl h.symm
        · exact Or.inr h
      · rintro (h | h)
        · exact Or.inl ⟨by omega, h.symm⟩
        · exact Or.inr h
  have := h l 0
  simpa [setOf] using this
/-- block b holds the set s -/
def SetAt (w : World) (b : Nat) (s : BitVec 256) : Prop :=
  w.heap[b]? = some (.cells #[.int .u64 (word s 0), .int .u64 (word s 1), .int .u64 (word s 2), .int .u64 (word s 3)] 25 (0, 0))
theorem SetAt.cell {w : World} {b : Nat} {s : BitVec 256} (h : SetAt w b s) (q : Nat) (hq : q < 4) : w.cell? ⟨b, q, none⟩ = some (.int .u64 (word s q)) := by
  unfold SetAt at h
  have h4 : q = 0 ∨ q = 1 ∨ q = 2 ∨ q = 3 := by omega
  rcases h4 with rfl | rfl | rfl | rfl <;> simp [World.cell?, h]
theorem SetAt.free {w : World} {b : Nat} {s : BitVec 256} (h : SetAt w b s) (q : Nat) : w.frozen? ⟨b, q, none⟩ = false := by
  unfold SetAt at h
  simp [World.frozen?, h]
theorem word_twoPow (x : Nat) (hx : x < 256) (i : Nat) (_ : i < 4) : word (BitVec.twoPow 256 x) i = if i = x / 64 then 2 ^ (x % 64) else 0 := by
  apply Nat.eq_of_testBit_eq
  intro j
  by_cases hj : j < 64
  · rw [word_bit _ _ _ hj, BitVec.getLsbD_twoPow]
    split
    · rw [Nat.testBit_two_pow, Bool.eq_iff_iff]; simp; omega
    · simp; omega
  · have h1 : (word (BitVec.twoPow 256 x) i).testBit j = false := Nat.testBit_lt_two_pow (Nat.lt_of_lt_of_le (word_lt _ _) (Nat.pow_le_pow_right (n := 2) (by decide) (by omega : 64 ≤ j)))
    rw [h1]
    split
    · rw [Nat.testBit_two_pow]; simp; omega
    · simp
theorem word_or_nat (s t : BitVec 256) (i : Nat) : word (s ||| t) i = word s i ||| word t i := by
  have h := word_or s t i
  rw [bits_or_nat _ _ (word_lt s i) (word_lt t i)] at h
  exact (Int.ofNat.inj h).symm
theorem SetAt.add {w : World} {b : Nat} {s : BitVec 256} (h : SetAt w b s) (x : Nat) (hx : x < 256) (v : Int) (hv : v = ((word s (x / 64) ||| 2 ^ (x % 64) : Nat) : Int)) :
    SetAt (w.setCell ⟨b, x / 64, none⟩ (.int .u64 v)) b (s ||| BitVec.twoPow 256 x) := by
  unfold SetAt at *
  have h4 : x / 64 = 0 ∨ x / 64 = 1 ∨ x / 64 = 2 ∨ x / 64 = 3 := by omega
  subst hv
  simp only [World.setCell, Array.getElem?_modify, h, word_or_nat, word_twoPow x hx _ (show 0 < 4 by decide), word_twoPow x hx _ (show 1 < 4 by decide), word_twoPow x hx _ (show 2 < 4 by decide), word_twoPow x hx _ (show 3 < 4 by decide)]
  rcases h4 with h4 | h4 | h4 | h4 <;> rw [h4] <;> simp
/-- a list of bytes that was handed in -/
def BytesAt (w : World) (a : Option Addr) (n cap : Nat) (l : List Nat) : Prop :=
  n = l.length ∧ (∀ x ∈ l, x < 256) ∧ n ≤ maxLen ∧ (n = 0 ∨ ∃ b off, a = some ⟨b, off, none⟩ ∧ n ≤ cap ∧ b < w.heap.size ∧ ∀ j, j < n → w.cell? ⟨b, off + j, none⟩ = some (u8v (l.getD j 0)))
theorem word_zero (i : Nat) : word 0 i = 0 := by
  unfold word
  simp
theorem setAt_start (w : World) (O : Obj) (hO : O = .cells #[.int .u64 0, .int .u64 0, .int .u64 0, .int .u64 0] 25 (0, 0)) : SetAt (w.alloc O) w.heap.size 0 := by
  subst hO
  unfold SetAt World.alloc
  rw [word_zero, word_zero, word_zero, word_zero]
  simp
theorem setAt_other {w : World} {b : Nat} {s : BitVec 256} (h : SetAt w b s) (a : Addr) (u : Value) (ha : a.block ≠ b) : SetAt (w.setCell a u) b s := by
  unfold SetAt at *
  simp only [World.setCell, Array.getElem?_modify, if_neg ha, h]
theorem setAt_drew {w : World} {b : Nat} {s : BitVec 256} (h : SetAt w b s) : SetAt w.drew b s := h
theorem setAt_alloc {w : World} {b : Nat} {s : BitVec 256} (h : SetAt w b s) (o : Obj) : SetAt (w.alloc o) b s := by
  unfold SetAt World.alloc at *
  have : b < w.heap.size := lt_of_block h
  show (w.heap.push o)[b]? = _
  rw [Array.getElem?_push, if_neg (by omega)]
  exact h
theorem setAt_lt {w : World} {b : Nat} {s : BitVec 256} (h : SetAt w b s) : b < w.heap.size := lt_of_block h
theorem setAt_below {B : Nat} {w w' : World} {b : Nat} {s : BitVec 256} (h : SetAt w b s) (hb : Below B w w') (hlt : b < B) : SetAt w' b s := by
  unfold SetAt at *
  rw [hb.block b hlt]; exact h
theorem setAt_made (w : World) (s : BitVec 256) : SetAt (w.alloc (.cells #[.int .u64 (word s 0), .int .u64 (word s 1), .int .u64 (word s 2), .int .u64 (word s 3)] 25)) w.heap.size s := by
  unfold SetAt World.alloc
  simp
/-- what the builders' loops hold: the result's block is untouched, the next one holds what was gathered -/
def Gather (w wr : World) (s : BitVec 256) : Prop := SetAt wr w.heap.size 0 ∧ SetAt wr (w.heap.size + 1) s ∧ Below w.heap.size w wr
theorem gather_start (w : World) (O : Obj) (hO : O = .cells #[.int .u64 0, .int .u64 0, .int .u64 0, .int .u64 0] 25 (0, 0)) : Gather w ((w.alloc O).alloc O) 0 :=
  ⟨setAt_alloc (setAt_start w O hO) _, by simpa using setAt_start (w.alloc O) O hO, ((Below.refl _ _).alloc (Nat.le_refl _) _).alloc (by simp) _⟩
theorem shl_or (a x : Nat) (ha : a < 18446744073709551616) : bits BinOp.or IntKind.u64 (a : Int) (IntKind.u64.wrap (2 ^ (x % 64))) = ((a ||| 2 ^ (x % 64) : Nat) : Int) := by
  have hlt : 2 ^ (x % 64) < 18446744073709551616 := Nat.pow_lt_pow_right (a := 2) (m := x % 64) (n := 64) (by decide) (Nat.mod_lt _ (by decide))
  have e : IntKind.u64.wrap (2 ^ (x % 64)) = ((2 ^ (x % 64) : Nat) : Int) := by
    rw [IntKind.wrap_u64]
    have : ((2 : Int) ^ (x % 64)) = ((2 ^ (x % 64) : Nat) : Int) := by simp
    rw [this]
    generalize 2 ^ (x % 64) = p at *
    omega
  rw [e, bits_or_nat _ _ ha hlt]
theorem gather_step {w wr : World} {s : BitVec 256} (h : Gather w wr s) (x : Nat) (hx : x < 256) :
    Gather w (wr.setCell ⟨w.heap.size + 1, x / 64, none⟩ (.int .u64 (bits BinOp.or IntKind.u64 (word s (x / 64) : Int) (IntKind.u64.wrap (2 ^ (x % 64)))))) (s ||| BitVec.twoPow 256 x) :=
  ⟨setAt_other h.1 _ _ (by simp), h.2.1.add x hx _ (shl_or _ _ (word_lt _ _)), h.2.2.setCell (by simp) _⟩
theorem gather_drew {w wr : World} {s : BitVec 256} (h : Gather w wr s) : Gather w wr.drew s := ⟨h.1, h.2.1, h.2.2.drew⟩
set_option maxHeartbeats 1000000 in
theorem of_any (a : Option Addr) (n cap : Nat) (l : List Nat) (w : World) (hl : BytesAt w a n cap l) :
    Calls Try.prog 43 #[.slice a n cap] w fun e w' => e = .returned (SV (setOf l)) ∧ Below w.heap.size w w' := by
  obtain ⟨hn, hlt, hmax, hcells⟩ := hl
  have Hn := Lib.hid hn
  clear hn
  unfold maxLen at hmax
  go_enter Try.func43, Try.ntmps43
  go_wp2
  go_loopw [8] (fun i wr => ∃ k : Nat, k ≤ n ∧ i = .int .i64 k ∧ Gather w wr (setOf (l.take k))) (fun i _ => n - (intOf i).toNat)
  case atStart => exact ⟨0, by omega, rfl, gather_start w _ rfl⟩
  case round =>
    obtain ⟨k, hk, rfl, hg⟩ := hrel
    by_cases hkn : k < n
    · rcases hcells with h0 | ⟨b, off, rfl, hcap, hbw, hcells⟩
      · omega
      · have hd : decide ((k : Int) < n) = true := by simp; omega
        have hkl : k < l.length := by rw [← Hn.out]; exact hkn
        obtain ⟨x, hx⟩ : ∃ x, x = l.getD k 0 := ⟨_, rfl⟩
        have hxl : x = l[k] := by rw [hx, List.getD_eq_getElem?_getD, List.getElem?_eq_getElem hkl]; rfl
        have hcell : wr.cell? ⟨b, off + k, none⟩ = some (.int .u8 (x : Int)) := by rw [hg.2.2.cell (p := ⟨b, off + k, none⟩) hbw, hcells k hkn, hx]; rfl
        have hx256 : x < 256 := by rw [hxl]; exact hlt _ (List.getElem_mem _)
        have hq : x / 64 < 4 := by omega
        have hsc := hg.2.1.cell (x / 64) hq
        have hsf := hg.2.1.free (x / 64)
        have hfin : setOf (l.take (k + 1)) = setOf (l.take k) ||| BitVec.twoPow 256 x := by
          rw [List.take_succ_eq_append_getElem hkl, setOf_snoc, hxl]
        have hst := gather_step hg x hx256
        rw [← hfin] at hst
        clear hcells hx hxl hfin hkl
        go_wp2
        go_roundw
        case rel => exact ⟨k + 1, by omega, by go_num, hst⟩
        case measure => simp [intOf]; omega
    · obtain rfl : k = n := by omega
      have hd : decide ((k : Int) < k) = false := by simp
      have c0 := hg.2.1.cell 0 (by decide)
      have c1 := hg.2.1.cell 1 (by decide)
      have c2 := hg.2.1.cell 2 (by decide)
      have c3 := hg.2.1.cell 3 (by decide)
      have r0 := hg.1.cell 0 (by decide)
      have r1 := hg.1.cell 1 (by decide)
      have r2 := hg.1.cell 2 (by decide)
      have r3 := hg.1.cell 3 (by decide)
      have q0 := hg.1.free 0
      have q1 := hg.1.free 1
      have q2 := hg.1.free 2
      have q3 := hg.1.free 3
      have hb := hg.2.2
      have hz := setAt_lt hg.2.1
      have ht : l.take k = l := List.take_of_length_le (by rw [Hn.out]; exact Nat.le_refl _)
      rw [ht] at c0 c1 c2 c3
      clear hg hcells ht
      go_wp2
      refine bodyPost_ret (v := SV (setOf l)) (by simp [results, Try.results43, go_sem, r0, r1, r2, r3]) rfl ⟨rfl, ?_⟩
      repeat (first | exact hb | refine Below.drew ?_ | refine Below.setCell ?_ (by simp) _)
/-- the bytes from lo to hi -/
def upTo (lo hi : Nat) : List Nat := (List.range (hi + 1 - lo)).map (lo + ·)
theorem upTo_mem (lo hi b : Nat) : b ∈ upTo lo hi ↔ lo ≤ b ∧ b ≤ hi := by
  simp only [upTo, List.mem_map, List.mem_range]
  constructor
  · rintro ⟨a, h, rfl⟩; omega
  · intro h; exact ⟨b - lo, by omega, by omega⟩
theorem has_lit (s : BitVec 256) (b : Nat) (a : Int) (ha : a = (b : Int)) (hb : b < 256) (w : World) :
    Calls Try.prog 78 #[SV s, .int .u8 a] w fun e w' => e = .returned (.bool (s.getLsbD b)) ∧ Below w.heap.size w w' := by
  subst ha; exact has_any s b hb w
end Go.Proofs.Ytklmomgccmekkaa
