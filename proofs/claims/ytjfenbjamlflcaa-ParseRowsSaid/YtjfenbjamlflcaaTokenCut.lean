/- The walk of token's Cut: a whole text. -/
import Derived.Test.YtjfenbjamlflcaaTokenNext
namespace Go.Proofs.Ytjfenbjamlflcaa
set_option maxRecDepth 100000
open Go.RowKit
/-- the cells of a list of tokens with their places -/
def tokCells (L : List (Tok × Nat)) : List Value := L.flatMap fun p => [.int .i64 p.1.kind, .int .u64 (word p.1.set 0), .int .u64 (word p.1.set 1), .int .u64 (word p.1.set 2), .int .u64 (word p.1.set 3), .int .i64 p.1.lo, .int .i64 p.1.hi, .int .i64 p.2]
theorem tokCells_append (a b : List (Tok × Nat)) : tokCells (a ++ b) = tokCells a ++ tokCells b := by simp [tokCells]
theorem tokCells_length (L : List (Tok × Nat)) : (tokCells L).length = L.length * 8 := by
  induction L with
  | nil => rfl
  | cons r L ih => simp [tokCells] at ih ⊢; omega
theorem info_tok : (Try.prog.info? 95).map (fun i => (i.zero, i.size, i.bytes)) = some (some (.agg #[.int .i64 0, .int .u64 0, .int .u64 0, .int .u64 0, .int .u64 0, .int .i64 0, .int .i64 0, .int .i64 0]), 8, 64) := by kernel_rfl
theorem toks_eight (w : World) (g : Nat) (hg : g = w.heap.size) (x0 x1 x2 x3 x4 x5 x6 x7 : Value) (t : TypeId) : ∀ (j : Nat) (x : Value), [x0, x1, x2, x3, x4, x5, x6, x7][j]? = some x → (w.alloc (.cells #[x0, x1, x2, x3, x4, x5, x6, x7] t)).cell? ((⟨g, 0, none⟩ : Addr).add j) = some x := by
  subst hg
  intro j x hx
  match j with
  | 0 => simp at hx; subst hx; simp [Addr.add]
  | 1 => simp at hx; subst hx; simp [Addr.add]
  | 2 => simp at hx; subst hx; simp [Addr.add]
  | 3 => simp at hx; subst hx; simp [Addr.add]
  | 4 => simp at hx; subst hx; simp [Addr.add]
  | 5 => simp at hx; subst hx; simp [Addr.add]
  | 6 => simp at hx; subst hx; simp [Addr.add]
  | 7 => simp at hx; subst hx; simp [Addr.add]
  | j + 8 => simp at hx
theorem often_err {q : List Nat} {e : Nat} (h : often q = .bad e) : e ≠ 0 := by
  rcases number_ways q with ⟨h0, _⟩ | ⟨h0, h1, _⟩ | ⟨h0, h1, _⟩
  · rw [often_bad h0] at h; injection h with h; omega
  · rw [often_large h0 h1] at h; injection h with h; omega
  · rw [often_tail h0 h1] at h
    unfold oftenTail at h
    split at h
    · cases h
    · cases h
    · simp only at h
      split at h
      · injection h with h; omega
      · split at h
        · injection h with h; omega
        · split at h
          · split at h
            · injection h with h; omega
            · cases h
          · injection h with h; omega
    · injection h with h; omega
theorem items_err : ∀ (f : Nat) (first : Bool) (s : BitVec 256) (q : List Nat) (e : Nat), items cls f first s q = .bad e → e ≠ 0
  | 0, _, _, _, e, h => by unfold items at h; injection h with h; omega
  | f + 1, _, _, [], e, h => by unfold items at h; injection h with h; omega
  | f + 1, first, s, x :: r, e, h => by
    unfold items at h
    split at h
    · cases h
    · split at h
      · rename_i e' he
        injection h with h
        rw [← h]
        exact itemM_err (r := x :: r) he
      · exact items_err f false _ _ e h
theorem escape_err {q : List Nat} {e : Nat} (h : escape q = .bad e) : e ≠ 0 := by
  unfold escape at h
  split at h
  · injection h with h; omega
  · split at h
    · cases h
    · split at h
      · injection h with h; omega
      · injection h with h; omega
theorem ofBR_bad {b : BR} {e : Nat} (h : ofBR b = .bad e) : b = .bad e := by
  cases b with
  | bad e' => injection h with h; rw [h]
  | ok s r => cases h
theorem bracket_err {r : List Nat} {e : Nat} (hb : bracket cls r = .bad e) : e ≠ 0 := by
  unfold bracket at hb
  split at hb
  · rename_i e' he
    injection hb with hb
    rw [← hb]
    split at he
    · exact items_err _ _ _ _ _ he
    · exact items_err _ _ _ _ _ he
  · rename_i s' rest' he
    simp only at hb
    by_cases h0 : (if r.head? = some 94 then ~~~s' else s') = 0
    · rw [if_pos h0] at hb; injection hb with hb; omega
    · rw [if_neg h0] at hb; cases hb
theorem tokOf_err {x : Nat} {r : List Nat} {e : Nat} (h : tokOf cls x r = .bad e) : e ≠ 0 := by
  unfold tokOf at h
  by_cases h42 : x = 42
  · rw [if_pos h42] at h; cases h
  rw [if_neg h42] at h
  by_cases h43 : x = 43
  · rw [if_pos h43] at h; cases h
  rw [if_neg h43] at h
  by_cases h63 : x = 63
  · rw [if_pos h63] at h; cases h
  rw [if_neg h63] at h
  by_cases h123 : x = 123
  · rw [if_pos h123] at h; exact often_err h
  rw [if_neg h123] at h
  by_cases h40 : x = 40
  · rw [if_pos h40] at h; split at h <;> cases h
  rw [if_neg h40] at h
  by_cases h41 : x = 41
  · rw [if_pos h41] at h; cases h
  rw [if_neg h41] at h
  by_cases h124 : x = 124
  · rw [if_pos h124] at h; cases h
  rw [if_neg h124] at h
  by_cases h94 : x = 94
  · rw [if_pos h94] at h; cases h
  rw [if_neg h94] at h
  by_cases h36 : x = 36
  · rw [if_pos h36] at h; cases h
  rw [if_neg h36] at h
  by_cases h46 : x = 46
  · rw [if_pos h46] at h; cases h
  rw [if_neg h46] at h
  by_cases h92 : x = 92
  · rw [if_pos h92] at h; exact escape_err h
  rw [if_neg h92] at h
  by_cases h91 : x = 91
  · rw [if_pos h91] at h; exact bracket_err (ofBR_bad h)
  rw [if_neg h91] at h
  cases h
/-- what Cut hands back -/
def CutPost (w : World) (n : Nat) : Option (Nat × Nat) × List (Tok × Nat) → Ending → World → Prop
  | (some p, _), e, w' => e = .returned (.tuple #[.slice none 0 0, .int .i64 (p.1 : Nat), .int .i64 (p.2 : Nat)]) ∧ Below w.heap.size w w'
  | (none, L), e, w' => ∃ v, e = .returned (.tuple #[v, .int .i64 n, .int .i64 0]) ∧ w'.ownsRow w.heap.size 95 8 v L.length (tokCells L) ∧ Below w.heap.size w w'
/-- what the loop of Cut holds -/
structure InCut (s : ByteArray) (w : World) (C : Option (Nat × Nat) × List (Tok × Nat)) (x : Nat) (r : List Nat) (toks : List (Tok × Nat)) (v : Value) (fuel : Nat) (wr : World) : Prop where
  drop : (nats s).drop x = r
  le : x ≤ s.size
  room : r.length < fuel
  eq : C = ((cutFrom cls fuel x r).1, toks ++ (cutFrom cls fuel x r).2)
  few : toks.length ≤ x
  own : wr.ownsRow w.heap.size 95 8 v toks.length (tokCells toks)
  below : Below w.heap.size w wr
theorem ret_cut {v : Value} {a b c d : Int} (h : a = b) (h' : c = d) : Ending.returned (.tuple #[v, .int .i64 a, .int .i64 c]) = .returned (.tuple #[v, .int .i64 b, .int .i64 d]) := by rw [h, h']
set_option maxHeartbeats 4000000 in
theorem cut_walk (s : ByteArray) (hs : s.size ≤ 1024) (w : World) (hm : MaxAt w) :
    Calls Try.prog 38 #[.string s] w (CutPost w s.size (cutAll cls (nats s))) := by
  obtain ⟨i0, hi, hz0, hz1, hz2⟩ := info_parts info_tok
  obtain ⟨C, hC⟩ : ∃ C, C = cutAll cls (nats s) := ⟨_, rfl⟩
  rw [← hC]
  have HC := Lib.hid hC
  clear hC
  have hs1 : (s.size : Int) ≤ 1024 := by omega
  go_enter Try.func38, Try.ntmps38
  go_wp2
  all_goals try omega
  go_loopw [5, 6] (fun v i wr => ∃ x r toks fuel, i = .int .i64 (x : Nat) ∧ InCut s w C x r toks v fuel wr) (fun _ i _ => s.size + 1 - (intOf i).toNat)
  case atStart => exact ⟨0, nats s, [], (nats s).length + 1, rfl, rfl, Nat.zero_le _, by omega, by rw [HC.out]; rfl, Nat.le_refl _, World.ownsRow_nil _ _ _ _, Below.refl _ _⟩
  case round =>
    obtain ⟨x, r, toks, fuel, rfl, hI⟩ := hrel
    have hx := hI.le
    have hmr := maxAt_below hm hI.below
    have Hown := Lib.hid hI.own
    have hlen : r.length = s.size - x := by rw [← hI.drop, List.length_drop, nats_length]
    cases r with
    | nil =>
      have hxs : s.size ≤ x := by simp at hlen; omega
      have hCe : C = (none, toks) := by rw [hI.eq]; cases fuel <;> simp [cutFrom]
      have hB := hI.below
      have hown := hI.own
      clear hI HC
      subst hCe
      have Hown := Lib.hid hown
      clear hown
      go_wp2
      all_goals try omega
      refine bodyPost_ret (by simp [results, Try.results38, go_sem]) rfl ⟨_, rfl, Hown.out, hB⟩
    | cons c r' =>
      have hxl : x < s.size := by simp at hlen; omega
      have hxi : (x : Int) ≤ s.size := by omega
      have hex : nats (s.extract x s.size) = c :: r' := by rw [nats_extract, hI.drop]
      have hes : (s.extract x s.size).size = r'.length + 1 := by rw [← nats_length, hex, lenCons]
      rw [lenCons] at hlen
      have hcall := next_q _ c r' hex (by omega) wr hmr
      rw [hes] at hcall
      have hb := hI.below
      have heq := hI.eq
      have hroom := hI.room
      rw [lenCons] at hroom
      have hfew := hI.few
      have hdrop := hI.drop
      clear hex hes hI
      cases ht : tokOf cls c r' with
      | bad e =>
        rw [ht, nextV_bad] at hcall
        have he0 : ((e : Int) != 0) = true := by have := tokOf_err ht; rw [bne_iff_ne]; omega
        have hCe : C = (some (x, e), toks) := by
          rw [heq]
          cases fuel with
          | zero => omega
          | succ f => rw [cut_stop ht]; simp
        clear heq ht HC Hown hdrop
        subst hCe
        go_wp2_with (first
          | (go_at_call 52; refine hcall.mono ?_; rintro e w3 ⟨rfl, hb3⟩; have B3 := hb.trans (hb3.mono hb.size))
          | fail)
        all_goals try omega
        refine bodyPost_ret (v := .tuple #[.slice none 0 0, .int .i64 x, .int .i64 e]) (by simp [results, Try.results38, go_sem]) rfl ⟨rfl, ?_⟩
        refine Below.alloc ?_ B3.size _
        exact B3
      | ok t rest =>
        have hsuf := tokOf_suf cls c r' t rest ht
        have hle := hsuf.length_le
        obtain ⟨n, hn⟩ : ∃ n, n = r'.length + 1 - rest.length := ⟨_, rfl⟩
        rw [ht] at hcall
        rw [show nextV (r'.length + 1) (.ok t rest) = .tuple #[tokV t 0, .int .i64 (n : Nat), .int .i64 0] from by rw [hn]; rfl] at hcall
        have hnext : (nats s).drop (x + n) = rest := by
          have := suf_drop hdrop (hsuf.trans (List.suffix_cons _ _)) (by rw [nats_length]; omega)
          rw [nats_length] at this
          rw [show x + n = s.size - rest.length from by omega]; exact this
        have hCe : C = ((cutFrom cls (fuel - 1) (x + n) rest).1, (toks ++ [(t, x)]) ++ (cutFrom cls (fuel - 1) (x + n) rest).2) := by
          rw [heq]
          cases fuel with
          | zero => omega
          | succ f => rw [cut_step ht, ← hn]; simp
        have hnew : ∀ v' w', w'.ownsRow w.heap.size 95 8 v' (toks.length + 1) (tokCells toks ++ tokCells [(t, x)]) → Below w.heap.size w w' → InCut s w C (x + n) rest (toks ++ [(t, x)]) v' (fuel - 1) w' :=
          fun v' w' g1 g2 => ⟨hnext, by omega, by omega, hCe, by simp; omega, by rw [tokCells_append, List.length_append]; exact g1, g2⟩
        have hnb : n ≤ 1024 := by omega
        have hn0 : 0 < n := by omega
        have hxb : x ≤ 1024 := by omega
        clear heq HC hdrop hnext hCe ht hsuf hle hn
        go_wp2_with (first
          | (go_at_call 52; refine hcall.mono ?_; rintro e w3 ⟨rfl, hb3⟩; have B3 := hb.trans (hb3.mono hb.size); have Hown3 := Lib.hid (owns_below Hown.out hb3); have hz3 := B3.size)
          | (at_builtin; refine wpList_append_own _ rfl _ _ 76 rfl w.heap.size 95 i0 (.agg #[.int .i64 0, .int .u64 0, .int .u64 0, .int .u64 0, .int .u64 0, .int .i64 0, .int .i64 0, .int .i64 0]) 8 64 Try.underlying76 hi hz0 hz1 hz2 rfl (by decide) _ _ _ rfl ((Hown3.out.alloc _).alloc _) ⟨w3.heap.size + 1, 0, none⟩ 1 1 [.int .i64 t.kind, .int .u64 (word t.set 0 : Int), .int .u64 (word t.set 1 : Int), .int .u64 (word t.set 2 : Int), .int .u64 (word t.set 3 : Int), .int .i64 t.lo, .int .i64 t.hi, .int .i64 x] rfl rfl ?c1 ?c2 ?c3 ?c4 ?c5 ?_)
          | fail)
        case c1 => exact toks_eight _ _ (by simp) _ _ _ _ _ _ _ _ _
        case c2 => intro u hu; simp at hu; rcases hu with rfl | rfl | rfl | rfl | rfl | rfl | rfl | rfl <;> rfl
        case c3 => unfold maxLen; omega
        case c4 => omega
        case c5 => simp; omega
        intro v' w6 hown6 hgrow _
        have hn6 := ((B3.alloc B3.size _).alloc (by simp; omega) _).grown hgrow (by simp; omega) (fun k hk => (Hown3.out.lt k hk).1)
        have hfin := Lib.hid (hnew v' w6 hown6 hn6)
        clear hown6 hgrow hn6 hnew Hown Hown3 hb3
        go_wp2_with fail
        go_roundw
        case rel => exact ⟨x + n, _, _, _, by go_num, hfin.out⟩
        case measure => simp [intOf]; omega
set_option maxHeartbeats 1000000 in
theorem cut_large (s : ByteArray) (hs : 1024 < s.size) (w : World) :
    Calls Try.prog 38 #[.string s] w fun e w' => e = .returned (.tuple #[.slice none 0 0, .int .i64 1024, .int .i64 4]) ∧ Below w.heap.size w w' := by
  have hs1 : (1024 : Int) < s.size := by omega
  go_enter Try.func38, Try.ntmps38
  go_wp2
  all_goals try omega
  refine bodyPost_ret (v := .tuple #[.slice none 0 0, .int .i64 1024, .int .i64 4]) (by simp [results, Try.results38, go_sem]) rfl ⟨rfl, Below.refl _ _⟩
end Go.Proofs.Ytjfenbjamlflcaa
