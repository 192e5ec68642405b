/- The walk of token's expression: a whole bracket. -/
import Derived.Test.YtjfenbjamlflcaaTokenItem
import Derived.Test.YtjfenbjamlflcaaBlockMem
namespace Go.Proofs.Ytjfenbjamlflcaa
set_option maxRecDepth 100000
open Go.RowKit
theorem has_b' (s : ByteArray) (a c : Int) (ha : 0 ≤ a) (hc : 0 ≤ c) (w : World) : Calls Try.prog 81 #[.string s, .int .i64 a, .int .u8 c] w fun e w' => e = .returned (.bool (hasB s a c)) ∧ w = w' :=
  (has_b s a c ha hc w).mono fun _ _ ⟨h1, h2⟩ => ⟨h1, h2.symm⟩
theorem Only.frozen {b : Nat} {w w' : World} (h : Only b w w') {a : Addr} (ha : a.block ≠ b) : w'.frozen? a = w.frozen? a := World.frozen?_of_block (h.block a.block ha)
theorem elems_none (s : BitVec 256) : (elems s).length = 0 ↔ s = 0 := by
  constructor
  · intro h
    have h0 : elems s = [] := List.length_eq_zero_iff.mp h
    apply BitVec.eq_of_getLsbD_eq
    intro i hi
    cases hb : s.getLsbD i with
    | false => simp
    | true =>
      have := (mem_elems s i).mpr ⟨hi, hb⟩
      rw [h0] at this; cases this
  · rintro rfl
    rw [List.length_eq_zero_iff]
    apply List.eq_nil_iff_forall_not_mem.mpr
    intro x hx
    have := ((mem_elems _ x).mp hx).2
    simp at this
theorem items_fuel (cls : List Nat → Option (BitVec 256)) : ∀ (f g : Nat) (first : Bool) (s : BitVec 256) (q : List Nat), q.length < f → q.length < g → items cls f first s q = items cls g first s q
  | 0, _, _, _, _, h, _ => by omega
  | _ + 1, 0, _, _, _, _, h => by omega
  | f + 1, g + 1, _, _, [], _, _ => rfl
  | f + 1, g + 1, first, s, x :: r, h, h' => by
    unfold items
    by_cases hc : x = 93 ∧ first = false
    · rw [if_pos hc, if_pos hc]
    · rw [if_neg hc, if_neg hc]
      cases he : item cls first x r with
      | bad e => rfl
      | ok u rest =>
        have := (item_suf cls first x r u rest he).length_le
        simp only [List.length_cons] at h h'
        exact items_fuel cls f g false _ rest (by omega) (by omega)
/-- what comes of the items: the complement, and that it holds a byte -/
def closeB (c : Bool) : BR → BR
  | .bad e => .bad e
  | .ok s rest => if (if c then ~~~s else s) = 0 then .bad 2 else .ok (if c then ~~~s else s) rest
theorem bracket_not (q : List Nat) : bracket cls (94 :: q) = closeB true (items cls (q.length + 1) true 0 q) := by
  unfold bracket closeB
  simp only [List.head?_cons, List.tail_cons, if_true]
  rw [items_fuel cls ((94 :: q).length + 1) (q.length + 1) true 0 q (by simp; omega) (by omega)]
  cases items cls (q.length + 1) true 0 q <;> rfl
theorem bracket_plain (q : List Nat) (h : q.head? ≠ some 94) : bracket cls q = closeB false (items cls (q.length + 1) true 0 q) := by
  unfold bracket closeB
  simp only [if_neg h]
  cases items cls (q.length + 1) true 0 q <;> rfl
theorem items_bad {f : Nat} {first : Bool} {s : BitVec 256} {r : List Nat} (hf : r.length < f) (hc : ¬ (r.head? = some 93 ∧ first = false)) {e : Nat} (h : itemM cls first r = .bad e) : items cls f first s r = .bad e := by
  cases f with
  | zero => omega
  | succ f =>
    cases r with
    | nil => unfold itemM at h; unfold items; injection h with h; rw [h]
    | cons x r =>
      have h' : item cls first x r = .bad e := h
      unfold items
      rw [if_neg (fun hx => hc ⟨by rw [hx.1]; rfl, hx.2⟩), h']
theorem items_ok {f : Nat} {first : Bool} {s : BitVec 256} {r : List Nat} (hf : r.length < f) (hc : ¬ (r.head? = some 93 ∧ first = false)) {t : BitVec 256} {rest : List Nat} (h : itemM cls first r = .ok t rest) :
    items cls f first s r = items cls (f - 1) false (s ||| t) rest ∧ rest <:+ r ∧ rest.length < r.length := by
  cases f with
  | zero => omega
  | succ f =>
    cases r with
    | nil => cases h
    | cons x r =>
      have h' : item cls first x r = .ok t rest := h
      have hs := item_suf cls first x r t rest h'
      refine ⟨?_, hs.trans (List.suffix_cons _ _), by have := hs.length_le; simp; omega⟩
      conv => lhs; unfold items
      rw [if_neg (fun hx => hc ⟨by rw [hx.1]; rfl, hx.2⟩), h']
      rfl
theorem items_end {f : Nat} {s : BitVec 256} {r : List Nat} (hf : (93 :: r).length < f) : items cls f false s (93 :: r) = .ok s r := by
  cases f with
  | zero => simp at hf
  | succ f => unfold items; rw [if_pos ⟨rfl, rfl⟩]
theorem suf_drop {l r rest : List Nat} {x : Nat} (h : l.drop x = r) (hs : rest <:+ r) (hx : x ≤ l.length) : l.drop (l.length - rest.length) = rest := by
  obtain ⟨p, hp⟩ := hs
  have hl : r.length = l.length - x := by rw [← h, List.length_drop]
  have hr : r.length = p.length + rest.length := by rw [← hp, List.length_append]
  rw [show l.length - rest.length = x + p.length from by omega, ← List.drop_drop, h, ← hp, List.drop_left]
theorem itemM_err {first : Bool} {r : List Nat} {e : Nat} (h : itemM cls first r = .bad e) : e ≠ 0 := by
  cases r with
  | nil => injection h with h; omega
  | cons x r =>
    have h' : item cls first x r = .bad e := h
    unfold item at h'
    split at h'
    · injection h' with h'; omega
    · split at h'
      · unfold classItem at h'
        split at h'
        · injection h' with h'; omega
        · split at h'
          · injection h' with h'; omega
          · cases h'
      · split at h'
        · injection h' with h'; omega
        · unfold rangeOf at h'
          split at h'
          · split at h'
            · cases h'
            · split at h'
              · injection h' with h'; omega
              · split at h'
                · injection h' with h'; omega
                · cases h'
          · injection h' with h'; omega
          · cases h'
/-- what the loop of expression holds -/
structure InItems (s : ByteArray) (w : World) (f : Nat) (R : BR) (x : Nat) (acc : BitVec 256) (r : List Nat) (fuel : Nat) (wr : World) : Prop where
  drop : (nats s).drop x = r
  le : x ≤ s.size
  ge : f ≤ x
  room : r.length < fuel
  eq : items cls fuel (decide (x = f)) acc r = R
  all : SetAt wr (w.heap.size + 1) acc
  below : Below (w.heap.size + 1) (w.alloc (.cells #[.int .i64 0, .int .u64 0, .int .u64 0, .int .u64 0, .int .u64 0, .int .i64 0, .int .i64 0, .int .i64 0] 95)) wr

set_option maxHeartbeats 4000000 in
theorem expr_false (s : ByteArray) (q : List Nat) (h94 : hasB s 1 94 = false) (hq : (nats s).drop 1 = q) (hf : 1 ≤ s.size) (hs : s.size < 4294967281) (w : World) (hm : MaxAt w) :
    Calls Try.prog 72 #[.string s] w fun e w' => e = .returned (nextV s.size (ofBR (closeB false (items cls (q.length + 1) true 0 q)))) ∧ Below w.heap.size w w' := by
  obtain ⟨R, hR⟩ : ∃ R, R = items cls (q.length + 1) true 0 q := ⟨_, rfl⟩
  rw [← hR]
  obtain ⟨P, hP⟩ : ∃ P, P = nextV s.size (ofBR (closeB false R)) := ⟨_, rfl⟩
  rw [← hP]
  have HR := Lib.hid hR
  have HQ := Lib.hid hq
  have HP := Lib.hid hP
  clear hR hq hP
  have hstart : ∀ w3, Below (w.heap.size + 1) (w.alloc (.cells #[.int .i64 0, .int .u64 0, .int .u64 0, .int .u64 0, .int .u64 0, .int .i64 0, .int .i64 0, .int .i64 0] 95)) w3 → SetAt w3 (w.heap.size + 1) 0 →
      InItems s w 1 R 1 0 q (q.length + 1) w3 := fun w3 h1 h2 => ⟨HQ.out, hf, Nat.le_refl _, by omega, by rw [HR.out]; rfl, h2, h1⟩
  go_enter Try.func72, Try.ntmps72
  go_wp2_with (first
    | (go_at_call 81; refine (has_b' s _ _ (by omega) (by omega) _).mono ?_; rintro e w1 ⟨rfl, rfl⟩))
  go_loopw [8] (fun i wr => ∃ x acc r fuel, i = .int .i64 (x : Nat) ∧ InItems s w 1 R x acc r fuel wr) (fun i _ => s.size + 1 - (intOf i).toNat)
  case atStart => exact ⟨1, 0, q, _, rfl, hstart _ ((Below.refl _ _).alloc (by simp) _) (by simpa using setAt_start (w.alloc _) _ rfl)⟩
  case round =>
    obtain ⟨x, acc, r, fuel, rfl, hI⟩ := hrel
    have hx := hI.le
    have hsz : w.heap.size + 1 < wr.heap.size := setAt_lt hI.all
    have hsz0 : w.heap.size < wr.heap.size := by omega
    have cr : ∀ o, wr.cell? ⟨w.heap.size, o, none⟩ = (w.alloc _).cell? ⟨w.heap.size, o, none⟩ := fun o => hI.below.cell (p := ⟨w.heap.size, o, none⟩) (Nat.lt_succ_self _)
    have fr : ∀ o, wr.frozen? ⟨w.heap.size, o, none⟩ = (w.alloc _).frozen? ⟨w.heap.size, o, none⟩ := fun o => hI.below.frozen (p := ⟨w.heap.size, o, none⟩) (Nat.lt_succ_self _)
    have hB0 : Below w.heap.size w wr := ((Below.refl _ _).alloc (Nat.le_refl _) _).trans (hI.below.mono (Nat.le_succ _))
    have hmr : MaxAt wr := maxAt_below hm hB0
    have hxb : x < 4294967281 := by omega
    by_cases hend : r.head? = some 93 ∧ x ≠ 1
    · -- the bracket is closed
      obtain ⟨h93, hxf⟩ := hend
      obtain ⟨r', rfl⟩ := head_cons h93
      have e93 := hasB_q hI.drop x rfl 93 93 rfl
      rw [decide_eq_true h93] at e93
      have hne : ((x : Int) == 1) = false := by rw [beq_eq_false_iff_ne]; omega
      have hRe : R = .ok acc r' := by
        have := hI.eq
        rw [decide_eq_false hxf, items_end hI.room] at this
        exact this.symm
      have hlen : x + (r'.length + 1) = s.size := by have := congrArg List.length hI.drop; rw [List.length_drop, nats_length, lenCons] at this; omega
      have hd : s.size - r'.length = x + 1 := by omega
      have hall := hI.all
      have hP := HP.out
      rw [hRe] at hP
      clear hRe hI h93 hxf hlen HR HQ HP hstart

      by_cases hz : acc = 0
      · rw [show closeB false (.ok acc r') = .bad 2 from by unfold closeB; exact if_pos hz] at hP
        rw [show ofBR (.bad 2) = .bad 2 from rfl, nextV_bad] at hP
        have hlen := (elems_none (acc)).mpr hz
        have HP := Lib.hid hP
        clear hz hd hP
        go_wp2_with (first
          | (go_at_call 81; refine (has_b' s _ _ (by omega) (by omega) _).mono ?_; rintro e w1 ⟨rfl, rfl⟩)
          | (refine wpList_load_set rfl _ rfl (w.heap.size + 1) 0 _ rfl hall.four ?_)
          | (refine wpList_load_set rfl _ rfl (w.heap.size + 1) 0 _ rfl hall5.four ?_)
          | (go_at_call 46; refine (len_any _ _).mono ?_; rintro e w5 ⟨rfl, hb5⟩; have c5 : ∀ o, w5.cell? ⟨w.heap.size, o, none⟩ = _ := fun o => (hb5.cell (p := ⟨w.heap.size, o, none⟩) hsz0).trans (cr o); have f5 : ∀ o, w5.frozen? ⟨w.heap.size, o, none⟩ = _ := fun o => (hb5.frozen (p := ⟨w.heap.size, o, none⟩) hsz0).trans (fr o); have B5 := hB0.trans (hb5.mono (by omega)); have hall5 := setAt_below hall hb5 (by omega))
          | fail)
        refine bodyPost_ret (v := .tuple #[tokV0 0 0 0, .int .i64 0, .int .i64 2]) (by simp [results, Try.results72, go_sem, c5]) rfl ⟨by rw [HP.out] <;> rfl, ?_⟩
        iterate 8 (refine Below.setCell ?_ (by simp) _)
        exact B5
      · rw [show closeB false (.ok acc r') = .ok (acc) r' from by unfold closeB; exact if_neg hz] at hP
        rw [show ofBR (.ok (acc) r') = .ok ⟨1, acc, 0, 0⟩ r' from rfl, nextV_ok1 _ _ _ _ hd] at hP
        have hlen : (((elems (acc)).length : Int) == 0) = false := by rw [beq_eq_false_iff_ne]; have : (elems (acc)).length ≠ 0 := fun h => hz ((elems_none _).mp h); omega
        have HP := Lib.hid hP
        clear hz hd hP
        go_wp2_with (first
          | (go_at_call 81; refine (has_b' s _ _ (by omega) (by omega) _).mono ?_; rintro e w1 ⟨rfl, rfl⟩)
          | (refine wpList_load_set rfl _ rfl (w.heap.size + 1) 0 _ rfl hall.four ?_)
          | (refine wpList_load_set rfl _ rfl (w.heap.size + 1) 0 _ rfl hall5.four ?_)
          | (go_at_call 46; refine (len_any _ _).mono ?_; rintro e w5 ⟨rfl, hb5⟩; have c5 : ∀ o, w5.cell? ⟨w.heap.size, o, none⟩ = _ := fun o => (hb5.cell (p := ⟨w.heap.size, o, none⟩) hsz0).trans (cr o); have f5 : ∀ o, w5.frozen? ⟨w.heap.size, o, none⟩ = _ := fun o => (hb5.frozen (p := ⟨w.heap.size, o, none⟩) hsz0).trans (fr o); have B5 := hB0.trans (hb5.mono (by omega)); have hall5 := setAt_below hall hb5 (by omega))
          | fail)
        refine bodyPost_ret (v := .tuple #[tokV1 (acc), .int .i64 (x + 1 : Nat), .int .i64 0]) (by simp [results, Try.results72, go_sem, c5]) rfl ⟨by rw [HP.out] <;> rfl, ?_⟩
        iterate 8 (refine Below.setCell ?_ (by simp) _)
        exact B5
    · -- a further item
      have hnot : ¬ (r.head? = some 93 ∧ decide (x = 1) = false) := fun h => hend ⟨h.1, by simpa using h.2⟩
      have hbad := fun e (hit : itemM cls (decide (x = 1)) r = .bad e) => (show R = .bad e from by rw [← hI.eq]; exact items_bad hI.room hnot hit)
      have hok := fun t rest (hit : itemM cls (decide (x = 1)) r = .ok t rest) => items_ok (s := acc) hI.room hnot hit
      by_cases h1 : x = 1
      · subst h1
        rw [decide_eq_true rfl] at hbad hok
        have hcall := item_q s 1 true r 1 rfl hI.drop hx hs
        cases hit : itemM cls true r with
        | bad e =>
          have hP := HP.out
          rw [hbad e hit, show ofBR (closeB false (.bad e)) = .bad e from rfl, nextV_bad] at hP
          have HP := Lib.hid hP
          have he0 : ((e : Int) != 0) = true := by
            have := itemM_err hit
            rw [bne_iff_ne]; omega
          rw [hit, itemV_bad] at hcall
          clear hI hP hstart HR HQ hend hnot hit hbad hok
          go_wp2_with (first
            | (go_at_call 81; refine (has_b' s _ _ (by omega) (by omega) _).mono ?_; rintro e w1 ⟨rfl, rfl⟩)
            | (go_at_call 85; refine (hcall _ hmr).mono ?_; rintro e w3 ⟨rfl, hb3⟩; have c3 : ∀ o, w3.cell? ⟨w.heap.size, o, none⟩ = _ := fun o => (hb3.cell (p := ⟨w.heap.size, o, none⟩) hsz0).trans (cr o); have f3 : ∀ o, w3.frozen? ⟨w.heap.size, o, none⟩ = _ := fun o => (hb3.frozen (p := ⟨w.heap.size, o, none⟩) hsz0).trans (fr o); have hz3 : w.heap.size < w3.heap.size := Nat.lt_of_lt_of_le hsz0 hb3.size; have hz3' : w.heap.size ≠ w3.heap.size := Nat.ne_of_lt hz3; have B3 : Below w.heap.size w w3 := hB0.trans (hb3.mono (Nat.le_of_lt hsz0)))
            | fail)
          refine bodyPost_ret (v := .tuple #[tokV0 0 0 0, .int .i64 0, .int .i64 e]) (by simp [results, Try.results72, go_sem, c3, cell_alloc_old, hz3]) rfl ⟨by rw [HP.out] <;> rfl, ?_⟩
          refine Below.alloc ?_ (by simp; omega) _
          iterate 8 (refine Below.setCell ?_ (by simp) _)
          exact B3
        | ok t rest =>
          obtain ⟨y, hy⟩ : ∃ y, y = s.size - rest.length := ⟨_, rfl⟩
          rw [hit, itemV_ok _ _ _ y hy.symm] at hcall
          obtain ⟨k1, k2, k3⟩ := hok t rest hit
          have hrl : r.length = s.size - 1 := by rw [← hI.drop, List.length_drop, nats_length]
          have hnew : ∀ w7, SetAt w7 (w.heap.size + 1) (acc ||| t) → Below (w.heap.size + 1) (w.alloc (.cells #[.int .i64 0, .int .u64 0, .int .u64 0, .int .u64 0, .int .u64 0, .int .i64 0, .int .i64 0, .int .i64 0] 95)) w7 →
              InItems s w 1 R y (acc ||| t) rest (fuel - 1) w7 := fun w7 g1 g2 =>
            ⟨by rw [hy]; have := suf_drop hI.drop k2 (by rw [nats_length]; exact hx); rw [nats_length] at this; exact this, by omega, by have := hI.ge; omega, by have := hI.room; omega, by
              have e1 := hI.eq
              rw [decide_eq_true rfl, k1] at e1
              rw [decide_eq_false (by have := hI.ge; omega)]; exact e1, g1, g2⟩
          have hmeas : s.size + 1 - y < s.size + 1 - 1 := by omega
          have hall := hI.all
          have hbel := hI.below
          have hyb : y < 4294967296 := by omega
          clear hI hstart HR HQ hend hnot hit hbad hok HP k1 k2 k3 hrl hy
          go_wp2_with (first
            | (go_at_call 81; refine (has_b' s _ _ (by omega) (by omega) _).mono ?_; rintro e w1 ⟨rfl, rfl⟩)
            | (go_at_call 85; refine (hcall _ hmr).mono ?_; rintro e w3 ⟨rfl, hb3⟩; have hall3 := setAt_below hall hb3 hsz; have hz3 : w.heap.size + 1 < w3.heap.size := Nat.lt_of_lt_of_le hsz hb3.size; have B3 := hbel.trans (hb3.mono (Nat.le_of_lt hsz)))
            | (refine wpList_store_set rfl _ _ rfl w3.heap.size 0 t rfl rfl (setAt_new _) ?_; intro w4 hs4 ho4; have hall4 := ho4.setAt (Nat.ne_of_lt hz3) (setAt_alloc hall3 _); have hz4 := ho4.size; have B4 := ho4.below (B3.alloc (Nat.le_of_lt hz3) _) (Nat.le_of_lt hz3); simp at hz4)
            | (refine wpList_load_set rfl _ rfl (w.heap.size + 1) 0 _ rfl hall4.four ?_)
            | (refine wpList_load_set rfl _ rfl w3.heap.size 0 _ rfl hs4.four ?_)
            | (go_at_call 86; refine (or_any _ _ _).mono ?_; rintro e w5 ⟨rfl, hb5⟩; have hall5 := setAt_below hall4 hb5 (by omega); have B5 := B4.trans (hb5.mono (by omega)))
            | (refine wpList_store_set rfl _ _ rfl (w.heap.size + 1) _ _ rfl rfl hall5 ?_; intro w6 hs6 ho6; have B6 := ho6.below B5 (Nat.le_refl _))
            | fail)
          go_roundw
          case rel => exact ⟨y, _, _, _, rfl, hnew _ hs6 B6⟩
          case measure => simp [intOf]; omega
      · rw [decide_eq_false h1] at hbad hok
        have hcall := item_q s x false r x rfl hI.drop hx hs
        have hne : ((x : Int) == 1) = false := by rw [beq_eq_false_iff_ne]; omega
        have e93 := hasB_q hI.drop x rfl 93 93 rfl
        rw [decide_eq_false (fun h => hend ⟨h, h1⟩)] at e93
        cases hit : itemM cls false r with
        | bad e =>
          have hP := HP.out
          rw [hbad e hit, show ofBR (closeB false (.bad e)) = .bad e from rfl, nextV_bad] at hP
          have HP := Lib.hid hP
          have he0 : ((e : Int) != 0) = true := by
            have := itemM_err hit
            rw [bne_iff_ne]; omega
          rw [hit, itemV_bad] at hcall
          clear hI hP hstart HR HQ hend hnot hit hbad hok h1
          go_wp2_with (first
            | (go_at_call 81; refine (has_b' s _ _ (by omega) (by omega) _).mono ?_; rintro e w1 ⟨rfl, rfl⟩)
            | (go_at_call 85; refine (hcall _ hmr).mono ?_; rintro e w3 ⟨rfl, hb3⟩; have c3 : ∀ o, w3.cell? ⟨w.heap.size, o, none⟩ = _ := fun o => (hb3.cell (p := ⟨w.heap.size, o, none⟩) hsz0).trans (cr o); have f3 : ∀ o, w3.frozen? ⟨w.heap.size, o, none⟩ = _ := fun o => (hb3.frozen (p := ⟨w.heap.size, o, none⟩) hsz0).trans (fr o); have hz3 : w.heap.size < w3.heap.size := Nat.lt_of_lt_of_le hsz0 hb3.size; have hz3' : w.heap.size ≠ w3.heap.size := Nat.ne_of_lt hz3; have B3 : Below w.heap.size w w3 := hB0.trans (hb3.mono (Nat.le_of_lt hsz0)))
            | fail)
          refine bodyPost_ret (v := .tuple #[tokV0 0 0 0, .int .i64 0, .int .i64 e]) (by simp [results, Try.results72, go_sem, c3, cell_alloc_old, hz3]) rfl ⟨by rw [HP.out] <;> rfl, ?_⟩
          refine Below.alloc ?_ (by simp; omega) _
          iterate 8 (refine Below.setCell ?_ (by simp) _)
          exact B3
        | ok t rest =>
          obtain ⟨y, hy⟩ : ∃ y, y = s.size - rest.length := ⟨_, rfl⟩
          rw [hit, itemV_ok _ _ _ y hy.symm] at hcall
          obtain ⟨k1, k2, k3⟩ := hok t rest hit
          have hrl : r.length = s.size - x := by rw [← hI.drop, List.length_drop, nats_length]
          have hnew : ∀ w7, SetAt w7 (w.heap.size + 1) (acc ||| t) → Below (w.heap.size + 1) (w.alloc (.cells #[.int .i64 0, .int .u64 0, .int .u64 0, .int .u64 0, .int .u64 0, .int .i64 0, .int .i64 0, .int .i64 0] 95)) w7 →
              InItems s w 1 R y (acc ||| t) rest (fuel - 1) w7 := fun w7 g1 g2 =>
            ⟨by rw [hy]; have := suf_drop hI.drop k2 (by rw [nats_length]; exact hx); rw [nats_length] at this; exact this, by omega, by have := hI.ge; omega, by have := hI.room; omega, by
              have e1 := hI.eq
              rw [decide_eq_false h1, k1] at e1
              rw [decide_eq_false (by have := hI.ge; omega)]; exact e1, g1, g2⟩
          have hmeas : s.size + 1 - y < s.size + 1 - x := by omega
          have hall := hI.all
          have hbel := hI.below
          have hyb : y < 4294967296 := by omega
          clear hI hstart HR HQ hend hnot hit hbad hok HP k1 k2 k3 hrl hy h1
          go_wp2_with (first
            | (go_at_call 81; refine (has_b' s _ _ (by omega) (by omega) _).mono ?_; rintro e w1 ⟨rfl, rfl⟩)
            | (go_at_call 85; refine (hcall _ hmr).mono ?_; rintro e w3 ⟨rfl, hb3⟩; have hall3 := setAt_below hall hb3 hsz; have hz3 : w.heap.size + 1 < w3.heap.size := Nat.lt_of_lt_of_le hsz hb3.size; have B3 := hbel.trans (hb3.mono (Nat.le_of_lt hsz)))
            | (refine wpList_store_set rfl _ _ rfl w3.heap.size 0 t rfl rfl (setAt_new _) ?_; intro w4 hs4 ho4; have hall4 := ho4.setAt (Nat.ne_of_lt hz3) (setAt_alloc hall3 _); have hz4 := ho4.size; have B4 := ho4.below (B3.alloc (Nat.le_of_lt hz3) _) (Nat.le_of_lt hz3); simp at hz4)
            | (refine wpList_load_set rfl _ rfl (w.heap.size + 1) 0 _ rfl hall4.four ?_)
            | (refine wpList_load_set rfl _ rfl w3.heap.size 0 _ rfl hs4.four ?_)
            | (go_at_call 86; refine (or_any _ _ _).mono ?_; rintro e w5 ⟨rfl, hb5⟩; have hall5 := setAt_below hall4 hb5 (by omega); have B5 := B4.trans (hb5.mono (by omega)))
            | (refine wpList_store_set rfl _ _ rfl (w.heap.size + 1) _ _ rfl rfl hall5 ?_; intro w6 hs6 ho6; have B6 := ho6.below B5 (Nat.le_refl _))
            | fail)
          go_roundw
          case rel => exact ⟨y, _, _, _, rfl, hnew _ hs6 B6⟩
          case measure => simp [intOf]; omega
set_option maxHeartbeats 4000000 in
theorem expr_true (s : ByteArray) (q : List Nat) (h94 : hasB s 1 94 = true) (hq : (nats s).drop 2 = q) (hf : 2 ≤ s.size) (hs : s.size < 4294967281) (w : World) (hm : MaxAt w) :
    Calls Try.prog 72 #[.string s] w fun e w' => e = .returned (nextV s.size (ofBR (closeB true (items cls (q.length + 1) true 0 q)))) ∧ Below w.heap.size w w' := by
  obtain ⟨R, hR⟩ : ∃ R, R = items cls (q.length + 1) true 0 q := ⟨_, rfl⟩
  rw [← hR]
  obtain ⟨P, hP⟩ : ∃ P, P = nextV s.size (ofBR (closeB true R)) := ⟨_, rfl⟩
  rw [← hP]
  have HR := Lib.hid hR
  have HQ := Lib.hid hq
  have HP := Lib.hid hP
  clear hR hq hP
  have hstart : ∀ w3, Below (w.heap.size + 1) (w.alloc (.cells #[.int .i64 0, .int .u64 0, .int .u64 0, .int .u64 0, .int .u64 0, .int .i64 0, .int .i64 0, .int .i64 0] 95)) w3 → SetAt w3 (w.heap.size + 1) 0 →
      InItems s w 2 R 2 0 q (q.length + 1) w3 := fun w3 h1 h2 => ⟨HQ.out, hf, Nat.le_refl _, by omega, by rw [HR.out]; rfl, h2, h1⟩
  go_enter Try.func72, Try.ntmps72
  go_wp2_with (first
    | (go_at_call 81; refine (has_b' s _ _ (by omega) (by omega) _).mono ?_; rintro e w1 ⟨rfl, rfl⟩))
  go_loopw [8] (fun i wr => ∃ x acc r fuel, i = .int .i64 (x : Nat) ∧ InItems s w 2 R x acc r fuel wr) (fun i _ => s.size + 1 - (intOf i).toNat)
  case atStart => exact ⟨2, 0, q, _, rfl, hstart _ ((Below.refl _ _).alloc (by simp) _) (by simpa using setAt_start (w.alloc _) _ rfl)⟩
  case round =>
    obtain ⟨x, acc, r, fuel, rfl, hI⟩ := hrel
    have hx := hI.le
    have hsz : w.heap.size + 1 < wr.heap.size := setAt_lt hI.all
    have hsz0 : w.heap.size < wr.heap.size := by omega
    have cr : ∀ o, wr.cell? ⟨w.heap.size, o, none⟩ = (w.alloc _).cell? ⟨w.heap.size, o, none⟩ := fun o => hI.below.cell (p := ⟨w.heap.size, o, none⟩) (Nat.lt_succ_self _)
    have fr : ∀ o, wr.frozen? ⟨w.heap.size, o, none⟩ = (w.alloc _).frozen? ⟨w.heap.size, o, none⟩ := fun o => hI.below.frozen (p := ⟨w.heap.size, o, none⟩) (Nat.lt_succ_self _)
    have hB0 : Below w.heap.size w wr := ((Below.refl _ _).alloc (Nat.le_refl _) _).trans (hI.below.mono (Nat.le_succ _))
    have hmr : MaxAt wr := maxAt_below hm hB0
    have hxb : x < 4294967281 := by omega
    by_cases hend : r.head? = some 93 ∧ x ≠ 2
    · -- the bracket is closed
      obtain ⟨h93, hxf⟩ := hend
      obtain ⟨r', rfl⟩ := head_cons h93
      have e93 := hasB_q hI.drop x rfl 93 93 rfl
      rw [decide_eq_true h93] at e93
      have hne : ((x : Int) == 2) = false := by rw [beq_eq_false_iff_ne]; omega
      have hRe : R = .ok acc r' := by
        have := hI.eq
        rw [decide_eq_false hxf, items_end hI.room] at this
        exact this.symm
      have hlen : x + (r'.length + 1) = s.size := by have := congrArg List.length hI.drop; rw [List.length_drop, nats_length, lenCons] at this; omega
      have hd : s.size - r'.length = x + 1 := by omega
      have hall := hI.all
      have hP := HP.out
      rw [hRe] at hP
      clear hRe hI h93 hxf hlen HR HQ HP hstart

      by_cases hz : ~~~acc = 0
      · rw [show closeB true (.ok acc r') = .bad 2 from by unfold closeB; exact if_pos hz] at hP
        rw [show ofBR (.bad 2) = .bad 2 from rfl, nextV_bad] at hP
        have hlen := (elems_none (~~~acc)).mpr hz
        have HP := Lib.hid hP
        clear hz hd hP
        go_wp2_with (first
          | (go_at_call 81; refine (has_b' s _ _ (by omega) (by omega) _).mono ?_; rintro e w1 ⟨rfl, rfl⟩)
          | (refine wpList_load_set rfl _ rfl (w.heap.size + 1) 0 _ rfl hall.four ?_)
          | (refine wpList_load_set rfl _ rfl (w.heap.size + 1) 0 _ rfl hs4.four ?_)
          | (refine wpList_load_set rfl _ rfl (w.heap.size + 1) 0 _ rfl hall5.four ?_)
          | (go_at_call 83; refine (not_any _ _).mono ?_; rintro e w3 ⟨rfl, hb3⟩; have hall3 := setAt_below hall hb3 hsz)
          | (refine wpList_store_set rfl _ _ rfl (w.heap.size + 1) _ _ rfl rfl hall3 ?_; intro w4 hs4 ho4; have hz4 : wr.heap.size ≤ w4.heap.size := by rw [ho4.size]; exact hb3.size
             have hz5 : w.heap.size < w4.heap.size := Nat.lt_of_lt_of_le hsz0 hz4
             have B4 : Below w.heap.size w w4 := ho4.below (hB0.trans (hb3.mono (by omega))) (by omega)
             have c4 : ∀ o, w4.cell? ⟨w.heap.size, o, none⟩ = _ := fun o => ((ho4.cell (a := ⟨w.heap.size, o, none⟩) (Nat.ne_of_lt (Nat.lt_succ_self _))).trans (hb3.cell (p := ⟨w.heap.size, o, none⟩) hsz0)).trans (cr o)
             have f4 : ∀ o, w4.frozen? ⟨w.heap.size, o, none⟩ = _ := fun o => ((ho4.frozen (a := ⟨w.heap.size, o, none⟩) (Nat.ne_of_lt (Nat.lt_succ_self _))).trans (hb3.frozen (p := ⟨w.heap.size, o, none⟩) hsz0)).trans (fr o))
          | (go_at_call 46; refine (len_any _ _).mono ?_; rintro e w5 ⟨rfl, hb5⟩; have c5 : ∀ o, w5.cell? ⟨w.heap.size, o, none⟩ = _ := fun o => (hb5.cell (p := ⟨w.heap.size, o, none⟩) hz5).trans (c4 o); have f5 : ∀ o, w5.frozen? ⟨w.heap.size, o, none⟩ = _ := fun o => (hb5.frozen (p := ⟨w.heap.size, o, none⟩) hz5).trans (f4 o); have B5 := B4.trans (hb5.mono (by omega)); have hall5 := setAt_below hs4 hb5 (by omega))
          | fail)
        refine bodyPost_ret (v := .tuple #[tokV0 0 0 0, .int .i64 0, .int .i64 2]) (by simp [results, Try.results72, go_sem, c5]) rfl ⟨by rw [HP.out] <;> rfl, ?_⟩
        iterate 8 (refine Below.setCell ?_ (by simp) _)
        exact B5
      · rw [show closeB true (.ok acc r') = .ok (~~~acc) r' from by unfold closeB; exact if_neg hz] at hP
        rw [show ofBR (.ok (~~~acc) r') = .ok ⟨1, ~~~acc, 0, 0⟩ r' from rfl, nextV_ok1 _ _ _ _ hd] at hP
        have hlen : (((elems (~~~acc)).length : Int) == 0) = false := by rw [beq_eq_false_iff_ne]; have : (elems (~~~acc)).length ≠ 0 := fun h => hz ((elems_none _).mp h); omega
        have HP := Lib.hid hP
        clear hz hd hP
        go_wp2_with (first
          | (go_at_call 81; refine (has_b' s _ _ (by omega) (by omega) _).mono ?_; rintro e w1 ⟨rfl, rfl⟩)
          | (refine wpList_load_set rfl _ rfl (w.heap.size + 1) 0 _ rfl hall.four ?_)
          | (refine wpList_load_set rfl _ rfl (w.heap.size + 1) 0 _ rfl hs4.four ?_)
          | (refine wpList_load_set rfl _ rfl (w.heap.size + 1) 0 _ rfl hall5.four ?_)
          | (go_at_call 83; refine (not_any _ _).mono ?_; rintro e w3 ⟨rfl, hb3⟩; have hall3 := setAt_below hall hb3 hsz)
          | (refine wpList_store_set rfl _ _ rfl (w.heap.size + 1) _ _ rfl rfl hall3 ?_; intro w4 hs4 ho4; have hz4 : wr.heap.size ≤ w4.heap.size := by rw [ho4.size]; exact hb3.size
             have hz5 : w.heap.size < w4.heap.size := Nat.lt_of_lt_of_le hsz0 hz4
             have B4 : Below w.heap.size w w4 := ho4.below (hB0.trans (hb3.mono (by omega))) (by omega)
             have c4 : ∀ o, w4.cell? ⟨w.heap.size, o, none⟩ = _ := fun o => ((ho4.cell (a := ⟨w.heap.size, o, none⟩) (Nat.ne_of_lt (Nat.lt_succ_self _))).trans (hb3.cell (p := ⟨w.heap.size, o, none⟩) hsz0)).trans (cr o)
             have f4 : ∀ o, w4.frozen? ⟨w.heap.size, o, none⟩ = _ := fun o => ((ho4.frozen (a := ⟨w.heap.size, o, none⟩) (Nat.ne_of_lt (Nat.lt_succ_self _))).trans (hb3.frozen (p := ⟨w.heap.size, o, none⟩) hsz0)).trans (fr o))
          | (go_at_call 46; refine (len_any _ _).mono ?_; rintro e w5 ⟨rfl, hb5⟩; have c5 : ∀ o, w5.cell? ⟨w.heap.size, o, none⟩ = _ := fun o => (hb5.cell (p := ⟨w.heap.size, o, none⟩) hz5).trans (c4 o); have f5 : ∀ o, w5.frozen? ⟨w.heap.size, o, none⟩ = _ := fun o => (hb5.frozen (p := ⟨w.heap.size, o, none⟩) hz5).trans (f4 o); have B5 := B4.trans (hb5.mono (by omega)); have hall5 := setAt_below hs4 hb5 (by omega))
          | fail)
        refine bodyPost_ret (v := .tuple #[tokV1 (~~~acc), .int .i64 (x + 1 : Nat), .int .i64 0]) (by simp [results, Try.results72, go_sem, c5]) rfl ⟨by rw [HP.out] <;> rfl, ?_⟩
        iterate 8 (refine Below.setCell ?_ (by simp) _)
        exact B5
    · -- a further item
      have hnot : ¬ (r.head? = some 93 ∧ decide (x = 2) = false) := fun h => hend ⟨h.1, by simpa using h.2⟩
      have hbad := fun e (hit : itemM cls (decide (x = 2)) r = .bad e) => (show R = .bad e from by rw [← hI.eq]; exact items_bad hI.room hnot hit)
      have hok := fun t rest (hit : itemM cls (decide (x = 2)) r = .ok t rest) => items_ok (s := acc) hI.room hnot hit
      by_cases h1 : x = 2
      · subst h1
        rw [decide_eq_true rfl] at hbad hok
        have hcall := item_q s 2 true r 2 rfl hI.drop hx hs
        cases hit : itemM cls true r with
        | bad e =>
          have hP := HP.out
          rw [hbad e hit, show ofBR (closeB true (.bad e)) = .bad e from rfl, nextV_bad] at hP
          have HP := Lib.hid hP
          have he0 : ((e : Int) != 0) = true := by
            have := itemM_err hit
            rw [bne_iff_ne]; omega
          rw [hit, itemV_bad] at hcall
          clear hI hP hstart HR HQ hend hnot hit hbad hok
          go_wp2_with (first
            | (go_at_call 81; refine (has_b' s _ _ (by omega) (by omega) _).mono ?_; rintro e w1 ⟨rfl, rfl⟩)
            | (go_at_call 85; refine (hcall _ hmr).mono ?_; rintro e w3 ⟨rfl, hb3⟩; have c3 : ∀ o, w3.cell? ⟨w.heap.size, o, none⟩ = _ := fun o => (hb3.cell (p := ⟨w.heap.size, o, none⟩) hsz0).trans (cr o); have f3 : ∀ o, w3.frozen? ⟨w.heap.size, o, none⟩ = _ := fun o => (hb3.frozen (p := ⟨w.heap.size, o, none⟩) hsz0).trans (fr o); have hz3 : w.heap.size < w3.heap.size := Nat.lt_of_lt_of_le hsz0 hb3.size; have hz3' : w.heap.size ≠ w3.heap.size := Nat.ne_of_lt hz3; have B3 : Below w.heap.size w w3 := hB0.trans (hb3.mono (Nat.le_of_lt hsz0)))
            | fail)
          refine bodyPost_ret (v := .tuple #[tokV0 0 0 0, .int .i64 0, .int .i64 e]) (by simp [results, Try.results72, go_sem, c3, cell_alloc_old, hz3]) rfl ⟨by rw [HP.out] <;> rfl, ?_⟩
          refine Below.alloc ?_ (by simp; omega) _
          iterate 8 (refine Below.setCell ?_ (by simp) _)
          exact B3
        | ok t rest =>
          obtain ⟨y, hy⟩ : ∃ y, y = s.size - rest.length := ⟨_, rfl⟩
          rw [hit, itemV_ok _ _ _ y hy.symm] at hcall
          obtain ⟨k1, k2, k3⟩ := hok t rest hit
          have hrl : r.length = s.size - 2 := by rw [← hI.drop, List.length_drop, nats_length]
          have hnew : ∀ w7, SetAt w7 (w.heap.size + 1) (acc ||| t) → Below (w.heap.size + 1) (w.alloc (.cells #[.int .i64 0, .int .u64 0, .int .u64 0, .int .u64 0, .int .u64 0, .int .i64 0, .int .i64 0, .int .i64 0] 95)) w7 →
              InItems s w 2 R y (acc ||| t) rest (fuel - 1) w7 := fun w7 g1 g2 =>
            ⟨by rw [hy]; have := suf_drop hI.drop k2 (by rw [nats_length]; exact hx); rw [nats_length] at this; exact this, by omega, by have := hI.ge; omega, by have := hI.room; omega, by
              have e1 := hI.eq
              rw [decide_eq_true rfl, k1] at e1
              rw [decide_eq_false (by have := hI.ge; omega)]; exact e1, g1, g2⟩
          have hmeas : s.size + 1 - y < s.size + 1 - 2 := by omega
          have hall := hI.all
          have hbel := hI.below
          have hyb : y < 4294967296 := by omega
          clear hI hstart HR HQ hend hnot hit hbad hok HP k1 k2 k3 hrl hy
          go_wp2_with (first
            | (go_at_call 81; refine (has_b' s _ _ (by omega) (by omega) _).mono ?_; rintro e w1 ⟨rfl, rfl⟩)
            | (go_at_call 85; refine (hcall _ hmr).mono ?_; rintro e w3 ⟨rfl, hb3⟩; have hall3 := setAt_below hall hb3 hsz; have hz3 : w.heap.size + 1 < w3.heap.size := Nat.lt_of_lt_of_le hsz hb3.size; have B3 := hbel.trans (hb3.mono (Nat.le_of_lt hsz)))
            | (refine wpList_store_set rfl _ _ rfl w3.heap.size 0 t rfl rfl (setAt_new _) ?_; intro w4 hs4 ho4; have hall4 := ho4.setAt (Nat.ne_of_lt hz3) (setAt_alloc hall3 _); have hz4 := ho4.size; have B4 := ho4.below (B3.alloc (Nat.le_of_lt hz3) _) (Nat.le_of_lt hz3); simp at hz4)
            | (refine wpList_load_set rfl _ rfl (w.heap.size + 1) 0 _ rfl hall4.four ?_)
            | (refine wpList_load_set rfl _ rfl w3.heap.size 0 _ rfl hs4.four ?_)
            | (go_at_call 86; refine (or_any _ _ _).mono ?_; rintro e w5 ⟨rfl, hb5⟩; have hall5 := setAt_below hall4 hb5 (by omega); have B5 := B4.trans (hb5.mono (by omega)))
            | (refine wpList_store_set rfl _ _ rfl (w.heap.size + 1) _ _ rfl rfl hall5 ?_; intro w6 hs6 ho6; have B6 := ho6.below B5 (Nat.le_refl _))
            | fail)
          go_roundw
          case rel => exact ⟨y, _, _, _, rfl, hnew _ hs6 B6⟩
          case measure => simp [intOf]; omega
      · rw [decide_eq_false h1] at hbad hok
        have hcall := item_q s x false r x rfl hI.drop hx hs
        have hne : ((x : Int) == 2) = false := by rw [beq_eq_false_iff_ne]; omega
        have e93 := hasB_q hI.drop x rfl 93 93 rfl
        rw [decide_eq_false (fun h => hend ⟨h, h1⟩)] at e93
        cases hit : itemM cls false r with
        | bad e =>
          have hP := HP.out
          rw [hbad e hit, show ofBR (closeB true (.bad e)) = .bad e from rfl, nextV_bad] at hP
          have HP := Lib.hid hP
          have he0 : ((e : Int) != 0) = true := by
            have := itemM_err hit
            rw [bne_iff_ne]; omega
          rw [hit, itemV_bad] at hcall
          clear hI hP hstart HR HQ hend hnot hit hbad hok h1
          go_wp2_with (first
            | (go_at_call 81; refine (has_b' s _ _ (by omega) (by omega) _).mono ?_; rintro e w1 ⟨rfl, rfl⟩)
            | (go_at_call 85; refine (hcall _ hmr).mono ?_; rintro e w3 ⟨rfl, hb3⟩; have c3 : ∀ o, w3.cell? ⟨w.heap.size, o, none⟩ = _ := fun o => (hb3.cell (p := ⟨w.heap.size, o, none⟩) hsz0).trans (cr o); have f3 : ∀ o, w3.frozen? ⟨w.heap.size, o, none⟩ = _ := fun o => (hb3.frozen (p := ⟨w.heap.size, o, none⟩) hsz0).trans (fr o); have hz3 : w.heap.size < w3.heap.size := Nat.lt_of_lt_of_le hsz0 hb3.size; have hz3' : w.heap.size ≠ w3.heap.size := Nat.ne_of_lt hz3; have B3 : Below w.heap.size w w3 := hB0.trans (hb3.mono (Nat.le_of_lt hsz0)))
            | fail)
          refine bodyPost_ret (v := .tuple #[tokV0 0 0 0, .int .i64 0, .int .i64 e]) (by simp [results, Try.results72, go_sem, c3, cell_alloc_old, hz3]) rfl ⟨by rw [HP.out] <;> rfl, ?_⟩
          refine Below.alloc ?_ (by simp; omega) _
          iterate 8 (refine Below.setCell ?_ (by simp) _)
          exact B3
        | ok t rest =>
          obtain ⟨y, hy⟩ : ∃ y, y = s.size - rest.length := ⟨_, rfl⟩
          rw [hit, itemV_ok _ _ _ y hy.symm] at hcall
          obtain ⟨k1, k2, k3⟩ := hok t rest hit
          have hrl : r.length = s.size - x := by rw [← hI.drop, List.length_drop, nats_length]
          have hnew : ∀ w7, SetAt w7 (w.heap.size + 1) (acc ||| t) → Below (w.heap.size + 1) (w.alloc (.cells #[.int .i64 0, .int .u64 0, .int .u64 0, .int .u64 0, .int .u64 0, .int .i64 0, .int .i64 0, .int .i64 0] 95)) w7 →
              InItems s w 2 R y (acc ||| t) rest (fuel - 1) w7 := fun w7 g1 g2 =>
            ⟨by rw [hy]; have := suf_drop hI.drop k2 (by rw [nats_length]; exact hx); rw [nats_length] at this; exact this, by omega, by have := hI.ge; omega, by have := hI.room; omega, by
              have e1 := hI.eq
              rw [decide_eq_false h1, k1] at e1
              rw [decide_eq_false (by have := hI.ge; omega)]; exact e1, g1, g2⟩
          have hmeas : s.size + 1 - y < s.size + 1 - x := by omega
          have hall := hI.all
          have hbel := hI.below
          have hyb : y < 4294967296 := by omega
          clear hI hstart HR HQ hend hnot hit hbad hok HP k1 k2 k3 hrl hy h1
          go_wp2_with (first
            | (go_at_call 81; refine (has_b' s _ _ (by omega) (by omega) _).mono ?_; rintro e w1 ⟨rfl, rfl⟩)
            | (go_at_call 85; refine (hcall _ hmr).mono ?_; rintro e w3 ⟨rfl, hb3⟩; have hall3 := setAt_below hall hb3 hsz; have hz3 : w.heap.size + 1 < w3.heap.size := Nat.lt_of_lt_of_le hsz hb3.size; have B3 := hbel.trans (hb3.mono (Nat.le_of_lt hsz)))
            | (refine wpList_store_set rfl _ _ rfl w3.heap.size 0 t rfl rfl (setAt_new _) ?_; intro w4 hs4 ho4; have hall4 := ho4.setAt (Nat.ne_of_lt hz3) (setAt_alloc hall3 _); have hz4 := ho4.size; have B4 := ho4.below (B3.alloc (Nat.le_of_lt hz3) _) (Nat.le_of_lt hz3); simp at hz4)
            | (refine wpList_load_set rfl _ rfl (w.heap.size + 1) 0 _ rfl hall4.four ?_)
            | (refine wpList_load_set rfl _ rfl w3.heap.size 0 _ rfl hs4.four ?_)
            | (go_at_call 86; refine (or_any _ _ _).mono ?_; rintro e w5 ⟨rfl, hb5⟩; have hall5 := setAt_below hall4 hb5 (by omega); have B5 := B4.trans (hb5.mono (by omega)))
            | (refine wpList_store_set rfl _ _ rfl (w.heap.size + 1) _ _ rfl rfl hall5 ?_; intro w6 hs6 ho6; have B6 := ho6.below B5 (Nat.le_refl _))
            | fail)
          go_roundw
          case rel => exact ⟨y, _, _, _, rfl, hnew _ hs6 B6⟩
          case measure => simp [intOf]; omega
theorem expression_q (s : ByteArray) (q : List Nat) (hq : nats s = 91 :: q) (hs : s.size < 4294967281) (w : World) (hm : MaxAt w) :
    Calls Try.prog 72 #[.string s] w fun e w' => e = .returned (nextV s.size (ofBR (bracket cls q))) ∧ Below w.heap.size w w' := by
  have hq1 : (nats s).drop 1 = q := by rw [hq]; rfl
  have hl := nats_length s
  rw [hq, lenCons] at hl
  have e94 := hasB_q hq1 1 rfl 94 94 rfl
  by_cases h : q.head? = some 94
  · obtain ⟨q1, rfl⟩ := head_cons h
    rw [decide_eq_true h] at e94
    rw [bracket_not]
    rw [lenCons] at hl
    exact expr_true s q1 e94 (by rw [hq]; rfl) (by omega) hs w hm
  · rw [decide_eq_false h] at e94
    rw [bracket_plain q h]
    exact expr_false s q e94 hq1 (by omega) hs w hm
end Go.Proofs.Ytjfenbjamlflcaa
