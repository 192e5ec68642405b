/- RefCapsGroups, RefCapsUnset, RefCapsSpans, RefCapsSpans2, RefCapsOf, RefCapsLaw, RefCapsText, OpenSpans, as one. -/
import Derived.Test.YtonhmjfopidacaaDoorRefCores
import Derived.Test.YtonhmjfopidacaaDoorCapsWalkAll
import Derived.Lib.AppendIntMem
import Derived.Deep.DeepCutAuto
import Derived.Maps.Range
import Derived.Test.YtonhmjfopidacaaDoorRefGoods
import Derived.Test.YtonhmjfopidacaaDoorRefVals
import Derived.Test.YtonhmjfopidacaaDoorHold
import Derived.Test.YtonhmjfopidacaaDoorCapsWA
import Derived.Test.YtonhmjfopidacaaDoorMark
import Derived.Test.YtonhmjfopidacaaDoorClosed
import Derived.Test.YtonhmjfopidacaaDoorAnyGuard2
import Derived.RegionTactic
import Derived.Test.YtonhmjfopidacaaDoorOpenSets
namespace Go.Proofs.YtonhmjfopidacaaDoor
namespace V
set_option maxRecDepth 100000
open Go.RowKit
def intsL (l : List Int) : List Value := l.map fun z => .int .i64 z
theorem intsL_snoc (l : List Int) (z : Int) : intsL (l ++ [z]) = intsL l ++ [.int .i64 z] := by
  unfold intsL
  rw [List.map_append]; rfl
def addN (acc : List Int) (n : Int) : List Int := if n ∈ acc then acc else acc ++ [n]
mutual
/-- the groups of a core, behind those that are told already -/
def grp : K.Cr → List Int → List Int
  | .mk k _ n l, acc => grps l (if k = 6 then addN acc n else acc)
def grps : List K.Cr → List Int → List Int
  | [], acc => acc
  | x :: l, acc => grps l (grp x acc)
end
theorem grp_mk (k : Int) (s : BitVec 256) (n : Int) (l : List K.Cr) (acc : List Int) : grp (.mk k s n l) acc = grps l (if k = 6 then addN acc n else acc) := by rw [grp]
theorem grps_nil (acc : List Int) : grps [] acc = acc := by rw [grps]
theorem grps_cons (x : K.Cr) (l : List K.Cr) (acc : List Int) : grps (x :: l) acc = grps l (grp x acc) := by rw [grps]
theorem grps_take : ∀ (l : List K.Cr) (j : Nat) (hj : j < l.length) (acc : List Int), grps (l.take (j + 1)) acc = grp l[j] (grps (l.take j) acc)
  | x :: l, 0, _, acc => by
    rw [List.take_succ_cons, List.take_zero, List.take_zero, grps_cons, grps_nil, grps_nil]; rfl
  | x :: l, j + 1, hj, acc => by
    rw [List.take_succ_cons, List.take_succ_cons, grps_cons, grps_cons, grps_take l j (by simpa using hj)]; rfl
theorem addN_len (acc : List Int) (n : Int) : (addN acc n).length ≤ acc.length + 1 := by
  unfold addN
  split <;> simp
mutual
theorem grp_len : ∀ (c : K.Cr) (acc : List Int), (grp c acc).length ≤ acc.length + c.count
  | .mk k s n l, acc => by
    rw [grp_mk, K.count_mk]
    have h := grps_len l (if k = 6 then addN acc n else acc)
    have h2 := addN_len acc n
    split at h <;> rename_i hk
    · rw [if_pos hk]; omega
    · rw [if_neg hk]; omega
theorem grps_len : ∀ (l : List K.Cr) (acc : List Int), (grps l acc).length ≤ acc.length + K.counts l
  | [], acc => by rw [grps_nil]; omega
  | x :: l, acc => by
    rw [grps_cons]
    have h1 := grps_len l (grp x acc)
    have h2 := grp_len x acc
    rw [K.counts_cons]
    omega
end
theorem addN_mem (acc : List Int) (n z : Int) : z ∈ addN acc n ↔ z ∈ acc ∨ z = n := by
  unfold addN
  split
  · rename_i h
    constructor
    · exact .inl
    · rintro (h1 | rfl)
      · exact h1
      · exact h
  · simp
mutual
theorem grp_mem (t : Nat) : ∀ (c : K.Cr) (acc : List Int), (t : Int) ∈ grp c acc ↔ (t : Int) ∈ acc ∨ hasG t c = true
  | .mk k s n l, acc => by
    rw [grp_mk, grps_mem t l, hasG_mk, Bool.or_eq_true, Bool.and_eq_true, beq_iff_eq, decide_eq_true_eq]
    split <;> rename_i hk
    · rw [addN_mem]
      constructor
      · rintro ((h | h) | h)
        · exact .inl h
        · exact .inr (.inl ⟨hk, h.symm⟩)
        · exact .inr (.inr h)
      · rintro (h | ⟨_, h⟩ | h)
        · exact .inl (.inl h)
        · exact .inl (.inr h.symm)
        · exact .inr h
    · constructor
      · rintro (h | h)
        · exact .inl h
        · exact .inr (.inr h)
      · rintro (h | ⟨h, _⟩ | h)
        · exact .inl h
        · exact absurd h hk
        · exact .inr h
theorem grps_mem (t : Nat) : ∀ (l : List K.Cr) (acc : List Int), (t : Int) ∈ grps l acc ↔ (t : Int) ∈ acc ∨ hasGs t l = true
  | [], acc => by rw [grps_nil, hasGs_nil]; simp
  | x :: l, acc => by
    rw [grps_cons, grps_mem t l, grp_mem t x, hasGs_cons, Bool.or_eq_true, or_assoc]
end
theorem owns_lit {w : World} {B n : Nat} {v : Value} {l : List Int} (h : w.ownsRow B 3 1 v n (intsL l)) : ∃ a cap, v = .slice a n cap ∧ n = l.length ∧ (0 < n → ∃ g, a = some ⟨g, 0, none⟩ ∧ n ≤ cap ∧ g < w.heap.size ∧ ∀ j (hj : j < l.length), w.cell? ⟨g, j, none⟩ = some (.int .i64 l[j])) := by
  have hn : n = l.length := by
    have := h.1
    unfold intsL at this
    rw [List.length_map] at this
    omega
  have h2 := h
  rcases h.2 with ⟨rfl, h1⟩ | ⟨g, cap, cur, rfl, hb, hg, hc, hm, hs, htake⟩
  · exact ⟨none, 0, by rw [h1], hn, fun h0 => by omega⟩
  · refine ⟨_, cap, rfl, hn, fun _ => ⟨g, rfl, hc, (Array.getElem?_eq_some_iff.1 hg).1, fun j hj => ?_⟩⟩
    have h3 := h2.cells (g := g) rfl j (.int .i64 l[j]) (by unfold intsL; rw [List.getElem?_map, List.getElem?_eq_getElem hj]; rfl)
    rw [addr_at, Nat.zero_add] at h3
    exact h3
/-- what is no row of numbers is kept -/
def KeepN (w w' : World) : Prop := ∀ (k : Nat) (o : Obj), w.heap[k]? = some o → (∀ cs fr, o ≠ .cells cs 3 fr) → w'.heap[k]? = some o
theorem KeepN.refl (w : World) : KeepN w w := fun _ _ h _ => h
theorem KeepN.trans {a b c : World} (h : KeepN a b) (h' : KeepN b c) : KeepN a c := fun k o ho hn => h' k o (h k o ho hn) hn
theorem KeepN.of_below {w w' : World} (h : Below w.heap.size w w') : KeepN w w' := fun k _o ho _ => (h.block k (lt_of_block ho)).trans ho
theorem KeepN.of_grown {w w' : World} {B n : Nat} {v : Value} {xs : List Value} (h : w.ownsRow B 3 1 v n xs) (hg : w.grownBy w' v.ownBlock) : KeepN w w' := fun k _o ho hn => by
  refine (hg.block k (lt_of_block ho) (fun e => ?_)).trans ho
  rcases h.2 with ⟨rfl, _⟩ | ⟨g, cap, cur, rfl, hb, hgg, _⟩
  · cases e
  · obtain rfl : k = g := by simpa [Value.ownBlock] using e
    rw [hgg] at ho
    injection ho with ho
    exact hn _ _ ho.symm
/-- what groups does -/
def GrPost (w : World) (B : Nat) (l : List Int) (e : Ending) (w' : World) : Prop :=
  ∃ v', e = .returned v' ∧ w'.ownsRow B 3 1 v' l.length (intsL l) ∧ Below B w w' ∧ KeepN w w'
theorem info_intr : (Tryd.prog.info? 3).map (fun i => (i.zero, i.size, i.bytes)) = some (some (.int .i64 0), 1, 8) := by kernel_rfl
theorem wpList_append_intr {ops : Array Oper} {rest : List Oper} {o : Oper} {a : Act} {w : World} {Q : Exit → Act → World → Prop} (hgd : o.guard = none) (s x : Operand)
    (ho : o.op = .call { callee := .builtin .append, args := #[s, x], argTypes := #[71, 71] }) (base : Nat) (v : Value) (n : Nat) (xs : List Value) (hs : a.eval s = v)
    (hown : w.ownsRow base 3 1 v n xs) (b : Nat) (z : Int) (hx : a.eval x = .slice (some ⟨b, 0, none⟩) 1 1) (hc : w.cell? ⟨b, 0, none⟩ = some (.int .i64 z)) (hn : n < 1000000000) (hbase : base ≤ w.heap.size)
    (h : ∀ v' w', w'.ownsRow base 3 1 v' (n + 1) (xs ++ [.int .i64 z]) → w.grownBy w' v.ownBlock → wpList Tryd.prog ops Q rest (a.put o.dst v') w') : wpList Tryd.prog ops Q (o :: rest) a w := by
  obtain ⟨i0, hi, hz0, hz1, hz2⟩ := info_parts info_intr
  refine wpList_append_own w hgd s x _ ho base 3 i0 (.int .i64 0) 1 8 Tryd.underlying71 hi hz0 hz1 hz2 rfl (by decide) v n xs hs hown ⟨b, 0, none⟩ 1 1 [.int .i64 z] hx rfl ?_ (by simp [Value.oneCell']) (by unfold maxLen; omega) (by omega) hbase ?_
  · intro j u hj
    rw [addr_at]
    match j, hj with
    | 0, hj => rw [← hj]; exact hc
  · intro v' w' g1 g2 _
    exact h v' w' g1 g2
set_option maxHeartbeats 8000000 in
theorem refGroups_any : ∀ (m : Nat) (c : K.Cr) (cs : List Value) (Wc : World) (acc : List Int) (v : Value) (B : Nat) (w : World), c.count ≤ m → K.Cr.ref Wc c cs → Wc.heap.size ≤ B → B ≤ w.heap.size → Below Wc.heap.size Wc w → acc.length + c.count ≤ 1000000 → w.ownsRow B 3 1 v acc.length (intsL acc) →
    Calls Tryd.prog 82 #[.agg cs.toArray, v] w (GrPost w B (grp c acc))
  | 0, c, _, _, _, _, _, _, h, _, _, _, _, _, _ => absurd (K.Cr.count_pos c) (by omega)
  | m + 1, .mk k s n l, cs, Wc, acc, v, B, w, hm, hat, hWB, hBw, hbw, hlen, hown => by
    rw [K.refc_mk] at hat
    obtain ⟨_, hfn, a, cap, rfl, hmax, hl⟩ := hat
    have hmx : (l.length : Int) ≤ 9223372036854775807 := by unfold maxLen at hmax; omega
    clear hmax
    rw [K.count_mk] at hm hlen
    rw [grp_mk]
    obtain ⟨va, vcap, rfl, _, hcells⟩ := owns_lit hown
    obtain ⟨W, hW⟩ : ∃ W, W = w.alloc (.cells (K.rcCells k s n (.slice a l.length cap)).toArray 57) := ⟨_, rfl⟩
    have hal : Below w.heap.size w W := by rw [hW]; exact K.alloc_below _ _
    have hbx : W.heap[w.heap.size]? = some (.cells (K.rcCells k s n (.slice a l.length cap)).toArray 57 (0, 0)) := by rw [hW]; exact World.alloc_heap_new w _
    have hcc : ∀ w', KeepN W w' → K.CCells w' w.heap.size k s n (.slice a l.length cap) := fun w' h => K.ccells_box (h _ _ hbx (fun cs fr e => by injection e with _ e _; cases e))
    have h0 := hcc W (KeepN.refl _)
    have p0 : W.cell? ⟨w.heap.size, 0, none⟩ = some (.int .i64 k) := h0.c0
    have p257 : W.cell? ⟨w.heap.size, 257, none⟩ = some (.int .i64 n) := h0.c257
    have hownW : W.ownsRow B 3 1 (.slice va acc.length vcap) acc.length (intsL acc) := own_below hown hal
    have Hs := Lib.hid (And.intro hWB (And.intro hBw (And.intro hbw hlen)))
    have Ho := Lib.hid (And.intro hownW hal)
    have Hcc := Lib.hid hcc
    have Hm := Lib.hid hm
    have Hih := Lib.hid (refGroups_any m)
    have Hl := Lib.hid hl
    generalize K.rcCells k s n (.slice a l.length cap) = C at hW ⊢
    have hnI := hfn
    obtain ⟨A, hA⟩ : ∃ A, A = if k = 6 then addN acc n else acc := ⟨_, rfl⟩
    rw [← hA]
    have hAl : A.length ≤ acc.length + 1 := by rw [hA]; split; exact addN_len _ _; omega
    have HA := Lib.hid (And.intro hA hAl)
    clear hA hAl
    have hacc : (acc.length : Int) ≤ 9223372036854775807 := by omega
    have Hc := Lib.hid hcells
    clear hal hbx hcc h0 hownW hown hWB hBw hbw hlen hm hl hcells hfn
    go_enter Tryd.func82, Tryd.ntmps82
    go_upto_region 1 with (first
      | (refine Go.Great.wpList_boxTo rfl _ _ rfl _ rfl w.heap.size rfl C.toArray rfl ?_)
      | fail)
    rw [← hW]
    clear hW
    go_cut [10] from 8 to 10 (fun v wx => v = .bool (k == 6) ∧ wx = W)
    case first =>
      go_wp2_with fail
      go_meet
      exact ⟨rfl, rfl⟩
    case rest =>
    obtain ⟨rfl, rfl⟩ := hcut
    obtain ⟨W, rfl⟩ : ∃ W, W = wc := ⟨_, rfl⟩
    go_step
    go_cut [1, 5, 6, 10] from 11 to 33 (fun v _ _ _ wx => wx.ownsRow B 3 1 v A.length (intsL A) ∧ Below B w wx ∧ KeepN W wx)
    case first =>
      by_cases hk : k = 6
      · subst hk
        have HA6 := Lib.hid (show A = addN acc n from by rw [HA.out.1, if_pos rfl])
        go_wp2_with fail
        go_loopw [5, 6] (fun t i wr => ∃ j : Nat, t = .bool (decide (n ∈ acc.take j)) ∧ i = .int .i64 j ∧ j ≤ acc.length ∧ Hid (Below W.heap.size W wr)) (fun _ i _ => acc.length - (intOf i).toNat)
        case atStart => exact ⟨0, by simp, rfl, Nat.zero_le _, Lib.hid (Below.refl _ _)⟩
        case round =>
          obtain ⟨j, rfl, rfl, hj, hB⟩ := hrel
          by_cases hjn : j < acc.length
          · have hd : decide ((j : Int) < acc.length) = true := by simp; omega
            have htk : decide (n ∈ acc.take (j + 1)) = (decide (n ∈ acc.take j) || (acc[j] == n)) := by
              have h : n ∈ acc.take (j + 1) ↔ n ∈ acc.take j ∨ acc[j] = n := by
                rw [List.take_succ_eq_append_getElem hjn, List.mem_append, List.mem_singleton]
                exact or_congr_right eq_comm
              rw [decide_eq_decide.2 h, Bool.decide_or]
              rfl
            obtain ⟨g, rfl, hgc, hgs, hcl⟩ := Hc.out (by omega)
            have hcj := hcl j hjn
            have hgW : g < W.heap.size := Nat.lt_of_lt_of_le hgs Ho.out.2.size
            have cj : ∀ L : Later wr, L.val.cell? ⟨g, j, none⟩ = some (.int .i64 acc[j]) := fun L => by
              rw [L.cell ⟨g, j, none⟩ (Nat.lt_of_lt_of_le hgW hB.out.size), hB.out.cell (p := ⟨g, j, none⟩) hgW, Ho.out.2.cell (p := ⟨g, j, none⟩) hgs]
              exact hcj
            have cn : ∀ L : Later wr, L.val.cell? ⟨w.heap.size, 257, none⟩ = some (.int .i64 n) := fun L => (Hcc.out _ ((KeepN.of_below hB.out).trans (KeepN.of_below L.ok))).c257
            have hcapI : (acc.length : Int) ≤ vcap := by omega
            have Htk := Lib.hid htk
            have hne : Nonempty (Later wr) := Later.nonempty wr
            generalize acc[j] = x at cj Htk
            clear hcl hcj hgW htk hgs hgc
            generalize decide (n ∈ acc.take j) = b at *
            cases b with
            | true =>
              go_upto_region 6 with fail
              refine wp_region_later (Below.refl _ _) (by kernel_rfl) (by kernel_rfl) ?_
              repeat (first | go_big_quiet_skip | go_big_quiet_step (fail))
              refine wpQuiet_nil ?_
              intro w' hw'
              obtain ⟨L', rfl⟩ := hw'
              have HL := Lib.hid L'.ok
              go_wp2_with fail
              go_roundw
              case rel => exact ⟨j + 1, by rw [Htk.out]; rfl, by go_num, by omega, Lib.hid (hB.out.trans (HL.out.mono hB.out.size))⟩
              case measure => simp [intOf]; omega
            | false =>
              go_upto_region 6 with fail
              refine wp_region_later (Below.refl _ _) (by kernel_rfl) (by kernel_rfl) ?_
              repeat (first | go_big_quiet_skip | go_big_quiet_step (fail))
              refine wpQuiet_nil ?_
              intro w' hw'
              obtain ⟨L', rfl⟩ := hw'
              have HL := Lib.hid L'.ok
              go_wp2_with fail
              go_roundw
              case rel => exact ⟨j + 1, by rw [Htk.out]; rfl, by go_num, by omega, Lib.hid (hB.out.trans (HL.out.mono hB.out.size))⟩
              case measure => simp [intOf]; omega
          · have hd : decide ((j : Int) < acc.length) = false := by simp; omega
            obtain rfl : j = acc.length := by omega
            rw [List.take_length]
            obtain ⟨hoW, halW⟩ := Ho.out
            have hor := own_below hoW hB.out
            have Hor := Lib.hid hor
            have Hbr := Lib.hid ((halW.mono Hs.out.2.1).trans (hB.out.mono (Nat.le_trans Hs.out.2.1 halW.size)))
            have Hsz := Lib.hid (Nat.le_trans Hs.out.2.1 (Nat.le_trans halW.size hB.out.size))
            clear hoW halW hor
            by_cases hin : n ∈ acc
            · have ha : addN acc n = acc := by unfold addN; rw [if_pos hin]
              rw [decide_eq_true hin]
              obtain rfl : A = acc := HA6.out.trans ha
              clear hin ha
              go_wp2_with fail
              go_meet
              exact ⟨Hor.out, Hbr.out, KeepN.of_below hB.out⟩
            · have ha : addN acc n = acc ++ [n] := by unfold addN; rw [if_neg hin]
              rw [decide_eq_false hin]
              obtain rfl : A = acc ++ [n] := HA6.out.trans ha
              have cn : wr.cell? ⟨w.heap.size, 257, none⟩ = some (.int .i64 n) := (Hcc.out _ (KeepN.of_below hB.out)).c257
              have hal3 := own_below Hor.out (K.alloc_below wr (.cells #[.int .i64 n] 3))
              have Hal3 := Lib.hid hal3
              have Hx3 := Lib.hid (World.alloc_heap_new wr (.cells #[.int .i64 n] 3))
              clear hin ha hal3
              go_wp2_with (first
                | (at_builtin; refine wpList_append_intr rfl _ _ rfl B (.slice va acc.length vcap) acc.length (intsL acc) rfl Hal3.out wr.heap.size n rfl (by rw [cells_at Hx3.out]; rfl) (by have := Hs.out; omega) (by rw [World.size_alloc]; have := Hsz.out; omega) ?_; intro v' w4 hown4 hgr4; have H4 := Lib.hid (And.intro hown4 hgr4); clear hown4 hgr4)
                | fail)
              go_meet
              rw [List.length_append, intsL_snoc]
              have hb1 : Below B w (wr.alloc (.cells #[.int .i64 n] 3)) := Hbr.out.trans ((K.alloc_below _ _).mono Hsz.out)
              exact ⟨H4.out.1, hb1.grown H4.out.2 (Nat.le_trans Hs.out.2.1 hb1.size) (fun k e => (Hal3.out.lt k e).1), ((KeepN.of_below hB.out).trans (KeepN.of_below (K.alloc_below _ _))).trans (KeepN.of_grown Hal3.out H4.out.2)⟩
      · obtain rfl : A = acc := by rw [HA.out.1, if_neg hk]
        have e6 : (k == 6) = false := by simpa using hk
        go_wp2_with fail
        go_meet
        exact ⟨Ho.out.1, Ho.out.2.mono Hs.out.2.1, KeepN.refl _⟩
    case rest =>
    obtain ⟨w1, rfl⟩ : ∃ w1, w1 = wc := ⟨_, rfl⟩
    obtain ⟨hown1, hb1, hk1⟩ := hcut
    have H1 := Lib.hid (And.intro hown1 (And.intro hb1 hk1))
    clear hown1 hb1 hk1
    go_wp2_with fail
    go_loopw [1, 7] (fun v i wr => ∃ (j : Nat) (vr : Value), vr = v ∧ i = .int .i64 j ∧ j ≤ l.length ∧ Hid (wr.ownsRow B 3 1 vr (grps (l.take j) A).length (intsL (grps (l.take j) A))) ∧ Hid (Below B w wr) ∧ Hid (KeepN W wr)) (fun _ i _ => l.length - (intOf i).toNat)
    case atStart => exact ⟨0, _, rfl, rfl, Nat.zero_le _, Lib.hid (by rw [List.take_zero, grps_nil]; exact H1.out.1), Lib.hid H1.out.2.1, Lib.hid H1.out.2.2⟩
    case round =>
      obtain ⟨j, vr, rfl, rfl, hj, hown, hB, hK⟩ := hrel
      obtain ⟨Lr, hLr⟩ : ∃ Lr, Lr = grps (l.take j) A := ⟨_, rfl⟩
      rw [← hLr] at hown
      obtain ⟨nr, hnr⟩ : ∃ nr, nr = Lr.length := ⟨_, rfl⟩
      have HLr := Lib.hid hLr
      have Hnr := Lib.hid hnr
      clear hLr
      rw [← hnr] at hown
      clear hnr
      obtain ⟨ar, capr, hvr, hlr, hcr⟩ := owns_lit hown.out
      clear hlr hcr
      have c258 : wr.cell? ⟨w.heap.size, 258, none⟩ = some (.slice a l.length cap) := (Hcc.out _ hK.out).c258
      by_cases hjl : j < l.length
      · have hd : decide ((j : Int) < l.length) = true := by simp; omega
        obtain ⟨b, off, rfl, hcap, hbw, hnodes⟩ := Hl.out.resolve_left (by omega)
        obtain ⟨ds, hds, hcell, hchild⟩ := K.coresRef_get Wc b l off hnodes j hjl
        have hbl : Below Wc.heap.size Wc wr := Hs.out.2.2.1.trans (hB.out.mono Hs.out.1)
        have h259 : K.RefC wr b (off + j * 259) ds := ⟨hds, fun q hq => by rw [hbl.cell (p := ⟨b, off + j * 259 + q, none⟩) hbw]; exact hcell q hq⟩
        have hcnt : l[j].count ≤ m := by
          have h1 := K.counts_mem (List.getElem_mem hjl)
          have := Hm.out
          omega
        have hlen : Lr.length + l[j].count ≤ 1000000 := by
          rw [HLr.out]
          have h1 := grps_len (l.take j) A
          have h2 := K.countsC_take l j hjl
          have h3 := K.counts_take_le l (j + 1)
          have := HA.out.2
          have := Hs.out.2.2.2
          omega
        have hcall := Hih.out l[j] ds Wc Lr vr B wr hcnt hchild Hs.out.1 (Nat.le_trans Hs.out.2.1 hB.out.size) hbl hlen (Hnr.out ▸ hown.out)
        rw [HLr.out, ← grps_take l j hjl] at hcall
        have Hcall := Lib.hid hcall
        have hcapI : (l.length : Int) ≤ cap := by omega
        clear hcell hchild hnodes hds hcnt hlen hbl hcall
        subst hvr
        go_wp2_with (first
          | (refine K.wpList_load_refcore rfl _ rfl b (off + j * 259) ds rfl h259 ?_)
          | (go_at_call 82; refine Hcall.out.mono ?_; rintro e w3 ⟨v3, rfl, hown3, hb3, hk3⟩; have H3 := Lib.hid (And.intro hown3 (And.intro hb3 hk3)); clear hown3 hb3 hk3)
          | fail)
        go_roundw
        case rel => exact ⟨j + 1, _, rfl, by go_num, by omega, Lib.hid H3.out.1, Lib.hid (hB.out.trans H3.out.2.1), Lib.hid (hK.out.trans H3.out.2.2)⟩
        case measure => simp [intOf]; omega
      · have hd : decide ((j : Int) < l.length) = false := by simp; omega
        obtain rfl : j = l.length := by omega
        have ho := hown.out
        have hLl : Lr = grps l A := by rw [HLr.out, List.take_length]
        rw [Hnr.out, hLl] at ho
        have Ho2 := Lib.hid ho
        clear ho
        go_wp2_with fail
        go_ret
        exact ⟨_, rfl, Ho2.out, hB.out, (KeepN.of_below Ho.out.2).trans hK.out⟩
/-- what Groups gives: a row of its own -/
def GsPost (w : World) (l : List Int) (e : Ending) (w' : World) : Prop := ∃ (a : Option Addr) (cap : Nat), e = .returned (.slice a l.length cap) ∧ Below w.heap.size w w' ∧
  (0 < l.length → ∃ g, a = some ⟨g, 0, none⟩ ∧ w.heap.size ≤ g ∧ l.length ≤ cap ∧ g < w'.heap.size ∧ ∀ j (hj : j < l.length), w'.cell? ⟨g, j, none⟩ = some (.int .i64 l[j]))
theorem owns_nil (w : World) (B : Nat) : w.ownsRow B 3 1 (.slice none 0 0) 0 (intsL []) := ⟨rfl, .inl ⟨rfl, rfl⟩⟩
set_option maxHeartbeats 4000000 in
theorem refGroups_walk {c : K.Cr} {cs : List Value} {Wc w : World} (hat : K.Cr.ref Wc c cs) (hb : Below Wc.heap.size Wc w) (hc : c.count ≤ 1000000) :
    Calls Tryd.prog 77 #[.agg cs.toArray] w (GsPost w (grp c [])) := by
  obtain ⟨W, hW⟩ : ∃ W, W = w.alloc (.cells cs.toArray 57) := ⟨_, rfl⟩
  have hal : Below w.heap.size w W := by rw [hW]; exact K.alloc_below _ _
  have hbx : K.RefC W w.heap.size 0 cs := K.refc_box (K.refc_len hat) W (by rw [hW]; exact Below.refl _ _)
  have hcall := refGroups_any _ c cs Wc [] (.slice none 0 0) W.heap.size W (Nat.le_refl _) hat (Nat.le_trans hb.size hal.size) (Nat.le_refl _) (hb.trans (hal.mono hb.size)) (by simpa using hc) (owns_nil _ _)
  have Hc := Lib.hid hcall
  have Hal := Lib.hid hal
  have Hbx := Lib.hid hbx
  generalize grp c [] = L at *
  clear hcall hal hbx hat hb hc
  go_enter Tryd.func77, Tryd.ntmps77
  go_upto_region 1 with (first
    | (refine Go.Great.wpList_boxTo rfl _ _ rfl _ rfl w.heap.size rfl cs.toArray rfl ?_)
    | fail)
  rw [← hW]
  clear hW
  go_wp2_with (first
    | (refine K.wpList_load_refcore rfl _ rfl w.heap.size 0 cs rfl Hbx.out ?_)
    | (go_at_call 82; refine Hc.out.mono ?_; rintro e w3 ⟨v3, rfl, hown3, hb3, hk3⟩; have H3 := Lib.hid (And.intro hown3 hb3); clear hown3 hb3 hk3)
    | fail)
  go_ret
  obtain ⟨a, cap, rfl, _, h⟩ := owns_lit H3.out.1
  refine ⟨a, cap, rfl, Hal.out.trans (H3.out.2.mono Hal.out.size), fun h0 => ?_⟩
  obtain ⟨g, rfl, h1, h2, h3⟩ := h h0
  exact ⟨g, rfl, by have := (H3.out.1.lt g rfl).1; have := Hal.out.size; omega, h1, h2, h3⟩
/-! the spans that are filled -/
/-- a span of the document's own -/
def spR (q : Sp) : Int × Int := spW q
/-- the spans in block R -/
def SpBox (w : World) (R n : Nat) (S : Gs) : Prop := ∃ cs : List Value, w.heap[R]? = some (.cells cs.toArray 99) ∧ cs.length = (n + 1) * 2 ∧ ∀ t, 1 ≤ t → t ≤ n → cs[t * 2]? = some (.int .i64 (spW (S t)).1) ∧ cs[t * 2 + 1]? = some (.int .i64 (spW (S t)).2)
theorem SpBox.lt {w : World} {R n : Nat} {S : Gs} (h : SpBox w R n S) : R < w.heap.size := by
  obtain ⟨_, h, _⟩ := h
  exact lt_of_block h
theorem SpBox.same {w w' : World} {R n : Nat} {S : Gs} (h : SpBox w R n S) (hb : w'.heap[R]? = w.heap[R]?) : SpBox w' R n S := by
  obtain ⟨cs, h1, h2⟩ := h
  exact ⟨cs, hb.trans h1, h2⟩
theorem SpBox.later {w w' : World} {R n : Nat} {S : Gs} (h : SpBox w R n S) (hb : Below w.heap.size w w') : SpBox w' R n S := h.same (hb.block R h.lt)
theorem infoRSpan : (Tryd.prog.info? 99).map (·.size) = some 2 := by kernel_rfl
theorem storeRSpan (w : World) (g off : Nat) (t : TypeId) (old : List Value) (a b : Value) (hg : w.heap[g]? = some (.cells old.toArray t (0, 0))) (ho : off + 2 ≤ old.length) (ha : a.oneCell' = true) (hb : b.oneCell' = true) :
    (storeVar 99 ⟨g, off, none⟩ (.agg #[a, b])).run Tryd.prog w = .ok () (w.setRow g ((old.set off a).set (off + 1) b).toArray) := by
  have h := run_storeCells_at Tryd.prog g off t [a, b] 0 old.toArray w hg (by simpa using ho) (fun v hv => by
    rcases List.mem_cons.1 hv with rfl | hv
    · exact ha
    · rw [List.mem_singleton] at hv; rw [hv]; exact hb)
  have hi := infoRSpan
  cases hq : Tryd.prog.info? 99 with
  | none => simp [hq] at hi
  | some i =>
    have hs : i.size = 2 := by simpa [hq] using hi
    rw [Nat.add_zero, show (old.toArray).toList = old from rfl, show [a, b].length = 2 from rfl, set_pair _ _ _ _ ho] at h
    simp [storeVar, sizeOf, typeInfo, hq, Value.cells, hs, h]
theorem wpList_store_rspan {ops : Array Oper} {rest : List Oper} {o : Oper} {a : Act} {w : World} {Q : Exit → Act → World → Prop} (hgd : o.guard = none) (x y : Operand) (ho : o.op = .store 99 x y)
    (R n m : Nat) (S : Gs) (f t : Int) (hx : a.eval x = .pointer (some ⟨R, m * 2, none⟩)) (hy : a.eval y = .agg #[.int .i64 f, .int .i64 t]) (hb : SpBox w R n S) (hm : m ≤ n) (q : Sp) (hq : spW q = (f, t))
    (h : ∀ w', SpBox w' R n (fun i => if i = m then q else S i) → (∀ u, m = 0 → w'.cell? ⟨R, u, none⟩ = if u = 0 then some (.int .i64 f) else if u = 1 then some (.int .i64 t) else w.cell? ⟨R, u, none⟩) → Only R w w' → wpList Tryd.prog ops Q rest (a.put o.dst undef) w') : wpList Tryd.prog ops Q (o :: rest) a w := by
  obtain ⟨cs, h1, h2, h3⟩ := hb
  refine wpList_plain hgd fun _ hK => ?_
  unfold Oper.wp execOp
  simp only [ho, hx, hy, Instr.storeAt, Instr.sureAddr, Sem.run_bind, Sem.run_pure, Result.andThen_ok, storeRSpan w R (m * 2) _ cs (.int .i64 f) (.int .i64 t) h1 (by omega) rfl rfl]
  have hh := setRow_heap w R _ ((cs.set (m * 2) (.int .i64 f)).set (m * 2 + 1) (.int .i64 t)).toArray _ _ h1
  simp only [Oper.upon]
  refine hK _ _ (h _ ⟨_, hh, by simpa using h2, fun i hi hin => ?_⟩ (fun u h0 => ?_) (only_row _ _ _))
  · dsimp only
    by_cases e : i = m
    · subst e
      rw [if_pos rfl, hq, List.getElem?_set_ne (by omega), List.getElem?_set_self (by omega), List.getElem?_set_self (by simp; omega)]
      exact ⟨rfl, rfl⟩
    · rw [if_neg e, List.getElem?_set_ne (by omega), List.getElem?_set_ne (by omega), List.getElem?_set_ne (by omega), List.getElem?_set_ne (by omega)]
      exact h3 i hi hin
  · subst h0
    rw [cells_at hh, cells_at h1, List.getElem?_toArray, List.getElem?_toArray]
    by_cases e0 : u = 0
    · subst e0
      rw [if_pos rfl, List.getElem?_set_ne (by omega), List.getElem?_set_self (by omega)]
    · rw [if_neg e0]
      by_cases e1 : u = 1
      · subst e1
        rw [if_pos rfl, List.getElem?_set_self (by simp; omega)]
      · rw [if_neg e1, List.getElem?_set_ne (by omega), List.getElem?_set_ne (by omega)]
end V
end Go.Proofs.YtonhmjfopidacaaDoor
namespace Go.Proofs.YtonhmjfopidacaaDoor
namespace V
set_option maxRecDepth 100000
open Go.RowKit
mutual
theorem grp_range : ∀ (c : K.Cr) (acc : List Int), c.form = true → (∀ z ∈ acc, 1 ≤ z ∧ z ≤ 32) → ∀ z ∈ grp c acc, 1 ≤ z ∧ z ≤ 32
  | .mk k s n l, acc, hf, ha => by
    rw [K.form_mk, Bool.and_eq_true] at hf
    have hp := part_n hf.1
    rw [grp_mk]
    refine grps_range l _ hf.2 ?_
    intro z hz
    split at hz
    · rename_i hk
      rcases (addN_mem acc n z).1 hz with h | rfl
      · exact ha z h
      · exact ⟨hp.2.2.2.2 hk, hp.2.1⟩
    · exact ha z hz
theorem grps_range : ∀ (l : List K.Cr) (acc : List Int), K.forms l = true → (∀ z ∈ acc, 1 ≤ z ∧ z ≤ 32) → ∀ z ∈ grps l acc, 1 ≤ z ∧ z ≤ 32
  | [], acc, _, ha => by rw [grps_nil]; exact ha
  | x :: l, acc, hf, ha => by
    rw [K.forms_cons, Bool.and_eq_true] at hf
    rw [grps_cons]
    exact grps_range l _ hf.2 (grp_range x acc hf.1 ha)
end
/-- what such a walk does to the spans -/
def SpRun (w : World) (R n : Nat) (S : Gs) (r : Value) (e : Ending) (w' : World) : Prop := e = .returned r ∧ SpBox w' R n S ∧ Kept R R w w'
theorem SpBox.ext {w : World} {R n : Nat} {S S' : Gs} (h : SpBox w R n S) (e : ∀ t, 1 ≤ t → t ≤ n → S t = S' t) : SpBox w R n S' := by
  obtain ⟨cs, h1, h2, h3⟩ := h
  exact ⟨cs, h1, h2, fun t ht hn => by rw [← e t ht hn]; exact h3 t ht hn⟩
set_option maxHeartbeats 4000000 in
theorem refUnset_walk {c : K.Cr} {cs : List Value} {Wc w : World} {R n : Nat} {S : Gs} (hat : K.Cr.ref Wc c cs) (hf : c.form = true) (hb : Kept R R Wc w) (hR : Wc.heap.size ≤ R) (hc : c.count ≤ 1000000) (hS : SpBox w R n S) (hn : n ≤ 32) :
    Calls Tryd.prog 61 #[.agg cs.toArray, .slice (some ⟨R, 0, none⟩) (n + 1) (n + 1)] w (SpRun w R n (unsetG (fun t => hasG t c) S) (.tuple #[])) := by
  have hbel : Below Wc.heap.size Wc w := ⟨hb.os, hb.tape, hb.output, hb.size, fun k hk => hb.block k (by have := hb.size; omega) (by omega) (by omega)⟩
  obtain ⟨W, hW⟩ : ∃ W, W = w.alloc (.cells cs.toArray 57) := ⟨_, rfl⟩
  have hal : Below w.heap.size w W := by rw [hW]; exact K.alloc_below _ _
  have hbx : K.RefC W w.heap.size 0 cs := K.refc_box (K.refc_len hat) W (by rw [hW]; exact Below.refl _ _)
  have hcall := refGroups_walk hat (hbel.trans (hal.mono hbel.size)) hc
  have hrange := grp_range c [] hf (fun z hz => by cases hz)
  have hmem := fun t => grp_mem t c []
  obtain ⟨L, hL⟩ : ∃ L, L = grp c [] := ⟨_, rfl⟩
  have hlen : L.length ≤ 1000000 := by rw [hL]; have := grp_len c []; simp at this; omega
  rw [← hL] at hcall hrange hmem
  have Hc := Lib.hid hcall
  have Hal := Lib.hid hal
  have Hbx := Lib.hid hbx
  have Hrm := Lib.hid (And.intro hrange hmem)
  have HS := Lib.hid (hS.later hal)
  have hlI : (L.length : Int) ≤ 9223372036854775807 := by omega
  have hnI : ((n : Int) + 1) ≤ 9223372036854775807 := by omega
  have Hn := Lib.hid hn
  clear hcall hal hbx hat hb hc hrange hmem hL hbel hf hS hlen hn
  go_enter Tryd.func61, Tryd.ntmps61
  go_upto_region 1 with (first
    | (refine Go.Great.wpList_boxTo rfl _ _ rfl _ rfl w.heap.size rfl cs.toArray rfl ?_)
    | fail)
  rw [← hW]
  clear hW
  go_wp2_with (first
    | (refine K.wpList_load_refcore rfl _ rfl w.heap.size 0 cs rfl Hbx.out ?_)
    | (go_at_call 77; refine Hc.out.mono ?_; rintro e w3 ⟨a3, cap3, rfl, hb3, h3⟩; have H3 := Lib.hid (And.intro hb3 h3); clear hb3 h3)
    | fail)
  go_loopw [5] (fun i wr => ∃ j : Nat, i = .int .i64 j ∧ j ≤ L.length ∧ Hid (SpBox wr R n (fun t => if (t : Int) ∈ L.take j then none else S t)) ∧ Hid (Kept R R w3 wr)) (fun i _ => L.length - (intOf i).toNat)
  case atStart => exact ⟨0, rfl, Nat.zero_le _, Lib.hid ((HS.out.later H3.out.1).ext fun t _ _ => by simp), Lib.hid (Kept.refl _ _ _)⟩
  case round =>
    obtain ⟨j, rfl, hj, hSr, hK⟩ := hrel
    by_cases hjl : j < L.length
    · have hd : decide ((j : Int) < L.length) = true := by simp; omega
      obtain ⟨g, rfl, hg1, hg2, hg3, hg4⟩ := H3.out.2 (by omega)
      have hcj := hg4 j hjl
      have hrj := Hrm.out.1 L[j] (List.getElem_mem hjl)
      obtain ⟨m, hm⟩ : ∃ m : Nat, L[j] = (m : Int) := ⟨L[j].toNat, by omega⟩
      rw [hm] at hcj hrj
      have hgR : g ≠ R := by have h1 := HS.out.lt; omega
      have cj : wr.cell? ⟨g, j, none⟩ = some (.int .i64 m) := by
        rw [World.cell?_of_block (hK.out.block g hg3 hgR hgR)]; exact hcj
      have hcapI : (L.length : Int) ≤ cap3 := by omega
      have htk : ∀ t : Nat, ((t : Int) ∈ L.take (j + 1)) ↔ ((t : Int) ∈ L.take j ∨ t = m) := fun t => by
        rw [List.take_succ_eq_append_getElem hjl, List.mem_append, List.mem_singleton, hm]
        exact or_congr_right Int.ofNat_inj
      have Htk := Lib.hid htk
      have Hm := Lib.hid hrj
      clear hcj hrj hm hg1 hg2 hg3 hg4 hgR htk
      by_cases hmn : m ≤ n
      · have dm : decide ((m : Int) < ((n + 1 : Nat) : Int)) = true := by simp; omega
        have dm2 : decide ((m : Int) < (n : Int) + 1) = true := by simp; omega
        have dm3 : (m : Int) < (n : Int) + 1 := by omega
        have Hmn := Lib.hid hmn
        clear hmn
        go_wp2_with (first
          | (refine wpList_store_rspan rfl _ _ rfl R n m _ (-1) (-1) rfl rfl hSr.out Hmn.out none rfl ?_; intro w4 hS4 _ ho4; have H4 := Lib.hid (And.intro hS4 ho4); clear hS4 ho4)
          | fail)
        go_roundw
        case rel => exact ⟨j + 1, by go_num, by omega, Lib.hid (H4.out.1.ext fun t _ _ => by
          have h := Htk.out t
          by_cases e : t = m
          · rw [if_pos e, if_pos (h.2 (.inr e))]
          · rw [if_neg e]
            by_cases e2 : (t : Int) ∈ L.take j
            · rw [if_pos e2, if_pos (h.2 (.inl e2))]
            · rw [if_neg e2, if_neg (fun h3 => (h.1 h3).elim e2 e)]), Lib.hid (hK.out.trans (Kept.of_only H4.out.2))⟩
        case measure => simp [intOf]; omega
      · have dm : decide ((m : Int) < ((n + 1 : Nat) : Int)) = false := by simp; omega
        have dm2 : decide ((m : Int) < (n : Int) + 1) = false := by simp; omega
        have Hmn := Lib.hid hmn
        clear hmn
        go_wp2_with fail
        go_roundw
        case rel => exact ⟨j + 1, by go_num, by omega, Lib.hid (hSr.out.ext fun t _ ht => by
          have h := Htk.out t
          have e : t ≠ m := by have := Hmn.out; omega
          by_cases e2 : (t : Int) ∈ L.take j
          · rw [if_pos e2, if_pos (h.2 (.inl e2))]
          · rw [if_neg e2, if_neg (fun h3 => (h.1 h3).elim e2 e)]), hK⟩
        case measure => simp [intOf]; omega
    · have hd : decide ((j : Int) < L.length) = false := by simp; omega
      obtain rfl : j = L.length := by omega
      have hSe := hSr.out
      rw [List.take_length] at hSe
      have HSe := Lib.hid (hSe.ext (S' := unsetG (fun t => hasG t c) S) fun t _ _ => by
        have h := Hrm.out.2 t
        unfold unsetG
        dsimp only
        by_cases hb : hasG t c = true
        · rw [if_pos (h.2 (.inr hb)), if_pos hb]
        · rw [if_neg (fun h3 => by
            rcases h.1 h3 with h4 | h4
            · cases h4
            · exact hb h4), if_neg hb])
      clear hSe
      go_wp2_with fail
      refine bodyPost_ret (v := .tuple #[]) (by simp [results, Tryd.results61, go_sem]) rfl ⟨rfl, HSe.out, (Kept.of_below (Hal.out.trans (H3.out.1.mono Hal.out.size))).trans hK.out⟩
end V
end Go.Proofs.YtonhmjfopidacaaDoor
namespace Go.Proofs.YtonhmjfopidacaaDoor
namespace V
set_option maxRecDepth 100000
open Go.RowKit
def SpOk (c : K.Cr) : Prop := ∀ (v : Vl) (cs ds : List Value) (Wc w : World) (R n : Nat) (a : Int) (S : Gs), bel c v = true → K.Cr.ref Wc c cs → Vl.at Wc v ds → Wc.heap.size ≤ R → n ≤ 32 → Kept R R Wc w → SpBox w R n S →
  Calls Tryd.prog 45 #[.agg cs.toArray, .agg ds.toArray, .int .i64 (wrap64 a), .slice (some ⟨R, 0, none⟩) (n + 1) (n + 1)] w (SpRun w R n (cap c v (a, S)).2 (.int .i64 (wrap64 (cap c v (a, S)).1)))
theorem kept_cell {R b : Nat} {w w' : World} (h : Kept R R w w') (hb : b < w.heap.size) (hne : b ≠ R) (q : Nat) : w'.cell? ⟨b, q, none⟩ = w.cell? ⟨b, q, none⟩ := World.cell?_of_block (h.block b hb hne hne)
theorem ccells_kept {R b : Nat} {w w' : World} {k n : Int} {s : BitVec 256} {v : Value} (h : K.CCells w b k s n v) (hk : Kept R R w w') (hne : b ≠ R) : K.CCells w' b k s n v := by
  have hlt : b < w.heap.size := World.block_lt_of_cell? w _ h.c0
  exact ⟨by rw [kept_cell hk hlt hne, h.c0], fun c hc => by rw [kept_cell hk hlt hne]; exact h.set c hc, by rw [kept_cell hk hlt hne, h.c257], by rw [kept_cell hk hlt hne, h.c258]⟩
theorem v3_kept {R b off : Nat} {w w' : World} {cs : List Value} (h : Val3 w b off cs) (hlt : b < w.heap.size) (hk : Kept R R w w') (hne : b ≠ R) : Val3 w' b off cs := ⟨h.1, fun q hq => by rw [kept_cell hk hlt hne]; exact h.2 q hq⟩
theorem refc_kept {R b off : Nat} {w w' : World} {cs : List Value} (h : K.RefC w b off cs) (hlt : b < w.heap.size) (hk : Kept R R w w') (hne : b ≠ R) : K.RefC w' b off cs := ⟨h.1, fun q hq => by rw [kept_cell hk hlt hne]; exact h.2 q hq⟩
set_option maxHeartbeats 8000000 in
theorem sp_cat {st : BitVec 256} {kk : Int} {x y : K.Cr} (hx : SpOk x) (hy : SpOk y) : SpOk (.mk 3 st kk [x, y]) := by
  intro v cs ds Wc w R n a S hbel hat hva hWR hn hk hS
  obtain ⟨v1, v2, rfl, hb1, hb2⟩ := bel_three hbel
  have e : cap (.mk 3 st kk [x, y]) (.mk 3 0 [v1, v2]) (a, S) = cap y v2 (cap x v1 (a, S)) := by rw [cap_mk]; rfl
  rw [e]
  clear e hbel
  rw [K.refc_mk] at hat
  obtain ⟨_, _, ca, ccap, rfl, _, hl⟩ := hat
  obtain ⟨cb, coff, rfl, hccap, hcb, hcr⟩ := hl.resolve_left (by simp)
  obtain ⟨es0, hes0, hcell0, hch0⟩ := K.coresRef_get Wc cb [x, y] coff hcr 0 (by simp)
  have HE0 := Lib.hid (fun (w' : World) (h : Kept R R Wc w') => refc_kept (⟨hes0, hcell0⟩ : K.RefC Wc cb (coff + 0 * 259) es0) hcb h (by omega))
  clear hcell0 hes0
  obtain ⟨es1, hes1, hcell1, hch1⟩ := K.coresRef_get Wc cb [x, y] coff hcr 1 (by simp)
  have HE1 := Lib.hid (fun (w' : World) (h : Kept R R Wc w') => refc_kept (⟨hes1, hcell1⟩ : K.RefC Wc cb (coff + 1 * 259) es1) hcb h (by omega))
  clear hcell1 hes1
  clear hcr hl
  rw [at_mk] at hva
  obtain ⟨_, _, va, vcap, rfl, hvmax, hvl⟩ := hva
  obtain ⟨vb, voff, rfl, hvcap, hvb, hvr⟩ := hvl.resolve_left (by simp)
  obtain ⟨ds0, hd0, hdat0⟩ := vals_get Wc vb [v1, v2] voff hvr 0 (by simp)
  have HD0 := Lib.hid (fun (w' : World) (h : Kept R R Wc w') => v3_kept hd0 hvb h (by omega))
  clear hd0
  obtain ⟨ds1, hd1, hdat1⟩ := vals_get Wc vb [v1, v2] voff hvr 1 (by simp)
  have HD1 := Lib.hid (fun (w' : World) (h : Kept R R Wc w') => v3_kept hd1 hvb h (by omega))
  clear hd1
  clear hvr hvl hvmax
  simp only [List.length_cons, List.length_nil, Nat.zero_add, Nat.reduceAdd] at *
  obtain ⟨W, hW⟩ : ∃ W, W = (w.alloc (.cells (K.rcCells 3 st kk (.slice (some ⟨cb, coff, none⟩) 2 ccap)).toArray 57)).alloc (.cells ([.int .i64 3, .int .u8 0, .slice (some ⟨vb, voff, none⟩) 2 vcap] : List Value).toArray 61) := ⟨_, rfl⟩
  have hal : Below w.heap.size w W := by rw [hW]; exact ((Below.refl _ _).alloc (Nat.le_refl _) _).alloc (by simp) _
  have hRw := hS.lt
  have hcc : K.CCells W w.heap.size 3 st kk (.slice (some ⟨cb, coff, none⟩) 2 ccap) := by rw [hW]; exact (K.ccells_box (World.alloc_heap_new w _)).later (K.alloc_below _ _)
  have hvb3 : Val3 W (w.heap.size + 1) 0 ([.int .i64 3, .int .u8 0, .slice (some ⟨vb, voff, none⟩) 2 vcap] : List Value) := by
    rw [hW]
    have h := World.alloc_heap_new (w.alloc (.cells (K.rcCells 3 st kk (.slice (some ⟨cb, coff, none⟩) 2 ccap)).toArray 57)) (.cells ([.int .i64 3, .int .u8 0, .slice (some ⟨vb, voff, none⟩) 2 vcap] : List Value).toArray 61)
    rw [World.size_alloc] at h
    exact rval3_in h rfl
  have hkW : Kept R R Wc W := hk.trans (Kept.of_below hal)
  have hSW := hS.later hal
  have Hcc := Lib.hid (fun (w' : World) (h : Kept R R W w') => ccells_kept hcc h (by omega))
  have Hvv := Lib.hid (fun (w' : World) (h : Kept R R W w') => v3_kept hvb3 hvb3.lt h (by omega))
  have p0 : W.cell? ⟨w.heap.size, 0, none⟩ = some (.int .i64 3) := hcc.c0
  have c258 : ∀ L : HeldW (Kept R R W), L.val.cell? ⟨w.heap.size, 258, none⟩ = some (.slice (some ⟨cb, coff, none⟩) 2 ccap) := fun L => (Hcc.out _ L.ok).c258
  have v0f : ∀ L : HeldW (Kept R R W), L.val.cell? ⟨w.heap.size + 1, 0, none⟩ = some (.int .i64 3) := fun L => (Hvv.out _ L.ok).2 0 (by decide)
  have v2f : ∀ L : HeldW (Kept R R W), L.val.cell? ⟨w.heap.size + 1, 2, none⟩ = some (.slice (some ⟨vb, voff, none⟩) 2 vcap) := fun L => (Hvv.out _ L.ok).2 2 (by decide)
  have hcapI : (2 : Int) ≤ ccap := by omega
  have hvcapI : (2 : Int) ≤ vcap := by omega
  have hnI : ((n : Int) + 1) ≤ 9223372036854775807 := by omega
  have HW := Lib.hid (And.intro hkW (And.intro hSW (And.intro hal (And.intro hWR hn))))
  have Hne : Nonempty (HeldW (Kept R R W)) := ⟨⟨W, Kept.refl _ _ _⟩⟩
  have HQ0 := Lib.hid (fun (w' : World) (a : Int) (S : Gs) (h : Kept R R Wc w') (hs : SpBox w' R n S) => hx _ es0 ds0 Wc w' R n a S hb1 hch0 hdat0 hWR hn h hs)
  clear hch0 hdat0
  have HQ1 := Lib.hid (fun (w' : World) (a : Int) (S : Gs) (h : Kept R R Wc w') (hs : SpBox w' R n S) => hy _ es1 ds1 Wc w' R n a S hb2 hch1 hdat1 hWR hn h hs)
  clear hch1 hdat1
  clear hx hy hb1 hb2
  generalize K.rcCells 3 st kk (.slice (some ⟨cb, coff, none⟩) 2 ccap) = C at hW ⊢
  clear hcc hvb3 hal hkW hSW hRw hk hS hWR hn 
  go_enter Tryd.func45, Tryd.ntmps45
  go_upto_region 1 with (first
    | (refine Go.Great.wpList_boxTo rfl _ _ rfl _ rfl w.heap.size rfl C.toArray rfl ?_)
    | fail)
  rw [← hW]
  clear hW
  go_upto_region 5 with fail
  obtain ⟨wd, hwd⟩ : ∃ wd, wd = W.drew := ⟨_, rfl⟩
  have hBd : Below W.heap.size W wd := by rw [hwd]; exact (Below.refl _ _).drew
  have hKd : Kept R R W wd := (Kept.refl R R W).trans (Kept.of_below hBd)
  have hSd := (HW.out.2.1).later hBd
  refine wp_region_hold (Kept R R W) (.plain 0 (.plain 1 (.plain 2 (.plain 3 (.plain 4 (.plain 5 (.plain 6 (.plain 7 (.plain 8 (.plain 9 (.plain 10 (.plain 11 (.plain 12 (.plain 13 (.plain 14 (.plain 15 (.plain 16 (.plain 17 (.plain 19 (.sole 18 (.sole 20 (.plain 21 .done)))))))))))))))))))))) (by rw [← hwd]; exact hKd) (by kernel_rfl) (by kernel_rfl) (fun c a d v w h => by cases d <;> exact h) ?_
  rw [← hwd]
  clear hwd
  repeat (first
      | (refine' hold_skip ?_ ?_ ?_
         rotate_left 1
         · simp only [List.getElem?_toArray, List.getElem?_cons_zero, List.getElem?_cons_succ]; exact rfl
         · exact rfl
         simp only [Act.put, List.setIfInBounds_toArray, List.set_cons_zero, List.set_cons_succ])
      | (refine' hold_want ?_ ?_ (fun J hJ => ?_)
         rotate_left 1
         · simp only [List.getElem?_toArray, List.getElem?_cons_zero, List.getElem?_cons_succ]; exact rfl
         · exact rfl
         first
         | (refine quiet_load_rc _ rfl cb (coff + 0) es0 rfl (fun w' ⟨L, hL⟩ => hL ▸ HE0.out _ (HW.out.1.trans L.ok)) ?_; refine hJ _ ?_; clear hJ J; try simp only [Act.put, List.setIfInBounds_toArray, List.set_cons_zero, List.set_cons_succ])
         | (refine quiet_load_rc _ rfl cb (coff + 259) es1 rfl (fun w' ⟨L, hL⟩ => hL ▸ HE1.out _ (HW.out.1.trans L.ok)) ?_; refine hJ _ ?_; clear hJ J; try simp only [Act.put, List.setIfInBounds_toArray, List.set_cons_zero, List.set_cons_succ])
         | (refine quiet_load_refval _ rfl vb (voff + 0) ds0 rfl (fun w' ⟨L, hL⟩ => hL ▸ HD0.out _ (HW.out.1.trans L.ok)) ?_; refine hJ _ ?_; clear hJ J; try simp only [Act.put, List.setIfInBounds_toArray, List.set_cons_zero, List.set_cons_succ])
         | (refine quiet_load_refval _ rfl vb (voff + 3) ds1 rfl (fun w' ⟨L, hL⟩ => hL ▸ HD1.out _ (HW.out.1.trans L.ok)) ?_; refine hJ _ ?_; clear hJ J; try simp only [Act.put, List.setIfInBounds_toArray, List.set_cons_zero, List.set_cons_succ])
         | (refine quiet_extract _ _ rfl _ _ rfl rfl ?_; refine hJ _ ?_; clear hJ J; try simp only [Act.put, List.setIfInBounds_toArray, List.set_cons_zero, List.set_cons_succ])
         | (go_big_quiet_op; refine hJ _ ?_; clear hJ J; try simp only [Act.put, List.setIfInBounds_toArray, List.set_cons_zero, List.set_cons_succ])))
  refine' hold_sole ?_ ?_ (fun J hJ => ?_)
  rotate_left 1
  · simp only [List.getElem?_toArray, List.getElem?_cons_zero, List.getElem?_cons_succ]; exact rfl
  · exact rfl
  go_simp
  refine (HQ0.out _ _ _ (HW.out.1.trans hKd) hSd).mono ?_
  rintro e w20 ⟨rfl, hS20, hk20⟩
  have hK20 : Kept R R W w20 := hKd.trans hk20
  refine hJ _ _ hK20 ?_
  clear hJ J hk20
  try simp only [Act.put, List.setIfInBounds_toArray, List.set_cons_zero, List.set_cons_succ]
  refine' hold_sole ?_ ?_ (fun J hJ => ?_)
  rotate_left 1
  · simp only [List.getElem?_toArray, List.getElem?_cons_zero, List.getElem?_cons_succ]; exact rfl
  · exact rfl
  go_simp
  refine (HQ1.out _ _ _ (HW.out.1.trans hK20) hS20).mono ?_
  rintro e w21 ⟨rfl, hS21, hk21⟩
  have hK21 : Kept R R W w21 := hK20.trans hk21
  refine hJ _ _ hK21 ?_
  clear hJ J hk21
  try simp only [Act.put, List.setIfInBounds_toArray, List.set_cons_zero, List.set_cons_succ]
  repeat (first
      | (refine' hold_skip ?_ ?_ ?_
         rotate_left 1
         · simp only [List.getElem?_toArray, List.getElem?_cons_zero, List.getElem?_cons_succ]; exact rfl
         · exact rfl
         simp only [Act.put, List.setIfInBounds_toArray, List.set_cons_zero, List.set_cons_succ])
      | (refine' hold_want ?_ ?_ (fun J hJ => ?_)
         rotate_left 1
         · simp only [List.getElem?_toArray, List.getElem?_cons_zero, List.getElem?_cons_succ]; exact rfl
         · exact rfl
         first
         | (refine quiet_load_rc _ rfl cb (coff + 0) es0 rfl (fun w' ⟨L, hL⟩ => hL ▸ HE0.out _ (HW.out.1.trans L.ok)) ?_; refine hJ _ ?_; clear hJ J; try simp only [Act.put, List.setIfInBounds_toArray, List.set_cons_zero, List.set_cons_succ])
         | (refine quiet_load_rc _ rfl cb (coff + 259) es1 rfl (fun w' ⟨L, hL⟩ => hL ▸ HE1.out _ (HW.out.1.trans L.ok)) ?_; refine hJ _ ?_; clear hJ J; try simp only [Act.put, List.setIfInBounds_toArray, List.set_cons_zero, List.set_cons_succ])
         | (refine quiet_load_refval _ rfl vb (voff + 0) ds0 rfl (fun w' ⟨L, hL⟩ => hL ▸ HD0.out _ (HW.out.1.trans L.ok)) ?_; refine hJ _ ?_; clear hJ J; try simp only [Act.put, List.setIfInBounds_toArray, List.set_cons_zero, List.set_cons_succ])
         | (refine quiet_load_refval _ rfl vb (voff + 3) ds1 rfl (fun w' ⟨L, hL⟩ => hL ▸ HD1.out _ (HW.out.1.trans L.ok)) ?_; refine hJ _ ?_; clear hJ J; try simp only [Act.put, List.setIfInBounds_toArray, List.set_cons_zero, List.set_cons_succ])
         | (refine quiet_extract _ _ rfl _ _ rfl rfl ?_; refine hJ _ ?_; clear hJ J; try simp only [Act.put, List.setIfInBounds_toArray, List.set_cons_zero, List.set_cons_succ])
         | (go_big_quiet_op; refine hJ _ ?_; clear hJ J; try simp only [Act.put, List.setIfInBounds_toArray, List.set_cons_zero, List.set_cons_succ])))
  refine hold_done ?_
  have HF := Lib.hid (And.intro hS21 hK21)
  go_wp2_with fail
  go_ret
  exact ⟨rfl, HF.out.1, (Kept.of_below HW.out.2.2.1).trans HF.out.2⟩

set_option maxHeartbeats 8000000 in
theorem sp_one {st : BitVec 256} {kk : Int}  : SpOk (.mk 1 st kk []) := by
  intro v cs ds Wc w R n a S hbel hat hva hWR hn hk hS
  obtain rfl := bel_one hbel
  have e : cap (.mk 1 st kk []) (.mk 1 0 []) (a, S) = (a, S) := by rw [cap_mk]; rfl
  rw [e]
  clear e hbel
  rw [K.refc_mk] at hat
  obtain ⟨_, _, ca, ccap, rfl, _, hl⟩ := hat
  clear hl
  rw [at_mk] at hva
  obtain ⟨_, _, va, vcap, rfl, hvmax, hvl⟩ := hva
  clear hvmax hvl
  simp only [List.length_nil] at *
  obtain ⟨W, hW⟩ : ∃ W, W = (w.alloc (.cells (K.rcCells 1 st kk (.slice ca 0 ccap)).toArray 57)).alloc (.cells ([.int .i64 1, .int .u8 0, .slice va 0 vcap] : List Value).toArray 61) := ⟨_, rfl⟩
  have hal : Below w.heap.size w W := by rw [hW]; exact ((Below.refl _ _).alloc (Nat.le_refl _) _).alloc (by simp) _
  have hRw := hS.lt
  have hcc : K.CCells W w.heap.size 1 st kk (.slice ca 0 ccap) := by rw [hW]; exact (K.ccells_box (World.alloc_heap_new w _)).later (K.alloc_below _ _)
  have hvb3 : Val3 W (w.heap.size + 1) 0 ([.int .i64 1, .int .u8 0, .slice va 0 vcap] : List Value) := by
    rw [hW]
    have h := World.alloc_heap_new (w.alloc (.cells (K.rcCells 1 st kk (.slice ca 0 ccap)).toArray 57)) (.cells ([.int .i64 1, .int .u8 0, .slice va 0 vcap] : List Value).toArray 61)
    rw [World.size_alloc] at h
    exact rval3_in h rfl
  have hkW : Kept R R Wc W := hk.trans (Kept.of_below hal)
  have hSW := hS.later hal
  have Hcc := Lib.hid (fun (w' : World) (h : Kept R R W w') => ccells_kept hcc h (by omega))
  have Hvv := Lib.hid (fun (w' : World) (h : Kept R R W w') => v3_kept hvb3 hvb3.lt h (by omega))
  have p0 : W.cell? ⟨w.heap.size, 0, none⟩ = some (.int .i64 1) := hcc.c0
  have v0f : ∀ L : HeldW (Kept R R W), L.val.cell? ⟨w.heap.size + 1, 0, none⟩ = some (.int .i64 1) := fun L => (Hvv.out _ L.ok).2 0 (by decide)
  have v2f : ∀ L : HeldW (Kept R R W), L.val.cell? ⟨w.heap.size + 1, 2, none⟩ = some (.slice va 0 vcap) := fun L => (Hvv.out _ L.ok).2 2 (by decide)
  have hnI : ((n : Int) + 1) ≤ 9223372036854775807 := by omega
  have HW := Lib.hid (And.intro hkW (And.intro hSW (And.intro hal (And.intro hWR hn))))
  have Hne : Nonempty (HeldW (Kept R R W)) := ⟨⟨W, Kept.refl _ _ _⟩⟩
  generalize K.rcCells 1 st kk (.slice ca 0 ccap) = C at hW ⊢
  clear hcc hvb3 hal hkW hSW hRw hk hS hWR hn 
  go_enter Tryd.func45, Tryd.ntmps45
  go_upto_region 1 with (first
    | (refine Go.Great.wpList_boxTo rfl _ _ rfl _ rfl w.heap.size rfl C.toArray rfl ?_)
    | fail)
  rw [← hW]
  clear hW
  go_wp2_with fail
  go_ret
  exact ⟨rfl, HW.out.2.1, Kept.of_below HW.out.2.2.1⟩

set_option maxHeartbeats 8000000 in
theorem sp_two {st : BitVec 256} {kk : Int}  : SpOk (.mk 2 st kk []) := by
  intro v cs ds Wc w R n a S hbel hat hva hWR hn hk hS
  obtain ⟨vbyte, rfl⟩ := bel_two hbel
  have e : cap (.mk 2 st kk []) (.mk 2 vbyte []) (a, S) = (a + 1, S) := by rw [cap_mk]; rfl
  rw [e]
  clear e hbel
  rw [K.refc_mk] at hat
  obtain ⟨_, _, ca, ccap, rfl, _, hl⟩ := hat
  clear hl
  rw [at_mk] at hva
  obtain ⟨_, _, va, vcap, rfl, hvmax, hvl⟩ := hva
  clear hvmax hvl
  simp only [List.length_nil] at *
  obtain ⟨W, hW⟩ : ∃ W, W = (w.alloc (.cells (K.rcCells 2 st kk (.slice ca 0 ccap)).toArray 57)).alloc (.cells ([.int .i64 2, .int .u8 vbyte, .slice va 0 vcap] : List Value).toArray 61) := ⟨_, rfl⟩
  have hal : Below w.heap.size w W := by rw [hW]; exact ((Below.refl _ _).alloc (Nat.le_refl _) _).alloc (by simp) _
  have hRw := hS.lt
  have hcc : K.CCells W w.heap.size 2 st kk (.slice ca 0 ccap) := by rw [hW]; exact (K.ccells_box (World.alloc_heap_new w _)).later (K.alloc_below _ _)
  have hvb3 : Val3 W (w.heap.size + 1) 0 ([.int .i64 2, .int .u8 vbyte, .slice va 0 vcap] : List Value) := by
    rw [hW]
    have h := World.alloc_heap_new (w.alloc (.cells (K.rcCells 2 st kk (.slice ca 0 ccap)).toArray 57)) (.cells ([.int .i64 2, .int .u8 vbyte, .slice va 0 vcap] : List Value).toArray 61)
    rw [World.size_alloc] at h
    exact rval3_in h rfl
  have hkW : Kept R R Wc W := hk.trans (Kept.of_below hal)
  have hSW := hS.later hal
  have Hcc := Lib.hid (fun (w' : World) (h : Kept R R W w') => ccells_kept hcc h (by omega))
  have Hvv := Lib.hid (fun (w' : World) (h : Kept R R W w') => v3_kept hvb3 hvb3.lt h (by omega))
  have p0 : W.cell? ⟨w.heap.size, 0, none⟩ = some (.int .i64 2) := hcc.c0
  have v0f : ∀ L : HeldW (Kept R R W), L.val.cell? ⟨w.heap.size + 1, 0, none⟩ = some (.int .i64 2) := fun L => (Hvv.out _ L.ok).2 0 (by decide)
  have v2f : ∀ L : HeldW (Kept R R W), L.val.cell? ⟨w.heap.size + 1, 2, none⟩ = some (.slice va 0 vcap) := fun L => (Hvv.out _ L.ok).2 2 (by decide)
  have hnI : ((n : Int) + 1) ≤ 9223372036854775807 := by omega
  have HW := Lib.hid (And.intro hkW (And.intro hSW (And.intro hal (And.intro hWR hn))))
  have Hne : Nonempty (HeldW (Kept R R W)) := ⟨⟨W, Kept.refl _ _ _⟩⟩
  have Hwr := Lib.hid (show wrap64 (wrap64 a + 1) = wrap64 (a + 1) by unfold wrap64; omega)
  generalize K.rcCells 2 st kk (.slice ca 0 ccap) = C at hW ⊢
  clear hcc hvb3 hal hkW hSW hRw hk hS hWR hn 
  go_enter Tryd.func45, Tryd.ntmps45
  go_upto_region 1 with (first
    | (refine Go.Great.wpList_boxTo rfl _ _ rfl _ rfl w.heap.size rfl C.toArray rfl ?_)
    | fail)
  rw [← hW]
  clear hW
  go_wp2_with fail
  go_ret
  exact ⟨congrArg (fun z => Ending.returned (.int .i64 z)) Hwr.out, HW.out.2.1, Kept.of_below HW.out.2.2.1⟩

set_option maxHeartbeats 8000000 in
theorem sp_left {st : BitVec 256} {kk : Int} {x y : K.Cr} (hx : SpOk x) {v1 : Vl} (hb1 : bel x v1 = true) : ∀ (cs ds : List Value) (Wc w : World) (R n : Nat) (a : Int) (S : Gs), K.Cr.ref Wc (.mk 4 st kk [x, y]) cs → Vl.at Wc (.mk 4 0 [v1]) ds → Wc.heap.size ≤ R → n ≤ 32 → Kept R R Wc w → SpBox w R n S →
    Calls Tryd.prog 45 #[.agg cs.toArray, .agg ds.toArray, .int .i64 (wrap64 a), .slice (some ⟨R, 0, none⟩) (n + 1) (n + 1)] w (SpRun w R n (cap (.mk 4 st kk [x, y]) (.mk 4 0 [v1]) (a, S)).2 (.int .i64 (wrap64 (cap (.mk 4 st kk [x, y]) (.mk 4 0 [v1]) (a, S)).1))) := by
  intro cs ds Wc w R n a S hat hva hWR hn hk hS
  have e : cap (.mk 4 st kk [x, y]) (.mk 4 0 [v1]) (a, S) = cap x v1 (a, S) := by rw [cap_mk]; rfl
  rw [e]
  clear e
  rw [K.refc_mk] at hat
  obtain ⟨_, _, ca, ccap, rfl, _, hl⟩ := hat
  obtain ⟨cb, coff, rfl, hccap, hcb, hcr⟩ := hl.resolve_left (by simp)
  obtain ⟨es0, hes0, hcell0, hch0⟩ := K.coresRef_get Wc cb [x, y] coff hcr 0 (by simp)
  have HE0 := Lib.hid (fun (w' : World) (h : Kept R R Wc w') => refc_kept (⟨hes0, hcell0⟩ : K.RefC Wc cb (coff + 0 * 259) es0) hcb h (by omega))
  clear hcell0 hes0
  obtain ⟨es1, hes1, hcell1, hch1⟩ := K.coresRef_get Wc cb [x, y] coff hcr 1 (by simp)
  have HE1 := Lib.hid (fun (w' : World) (h : Kept R R Wc w') => refc_kept (⟨hes1, hcell1⟩ : K.RefC Wc cb (coff + 1 * 259) es1) hcb h (by omega))
  clear hcell1 hes1
  clear hcr hl
  rw [at_mk] at hva
  obtain ⟨_, _, va, vcap, rfl, hvmax, hvl⟩ := hva
  obtain ⟨vb, voff, rfl, hvcap, hvb, hvr⟩ := hvl.resolve_left (by simp)
  obtain ⟨ds0, hd0, hdat0⟩ := vals_get Wc vb [v1] voff hvr 0 (by simp)
  have HD0 := Lib.hid (fun (w' : World) (h : Kept R R Wc w') => v3_kept hd0 hvb h (by omega))
  clear hd0
  clear hvr hvl hvmax
  simp only [List.length_cons, List.length_nil, Nat.zero_add, Nat.reduceAdd] at *
  obtain ⟨W, hW⟩ : ∃ W, W = (w.alloc (.cells (K.rcCells 4 st kk (.slice (some ⟨cb, coff, none⟩) 2 ccap)).toArray 57)).alloc (.cells ([.int .i64 4, .int .u8 0, .slice (some ⟨vb, voff, none⟩) 1 vcap] : List Value).toArray 61) := ⟨_, rfl⟩
  have hal : Below w.heap.size w W := by rw [hW]; exact ((Below.refl _ _).alloc (Nat.le_refl _) _).alloc (by simp) _
  have hRw := hS.lt
  have hcc : K.CCells W w.heap.size 4 st kk (.slice (some ⟨cb, coff, none⟩) 2 ccap) := by rw [hW]; exact (K.ccells_box (World.alloc_heap_new w _)).later (K.alloc_below _ _)
  have hvb3 : Val3 W (w.heap.size + 1) 0 ([.int .i64 4, .int .u8 0, .slice (some ⟨vb, voff, none⟩) 1 vcap] : List Value) := by
    rw [hW]
    have h := World.alloc_heap_new (w.alloc (.cells (K.rcCells 4 st kk (.slice (some ⟨cb, coff, none⟩) 2 ccap)).toArray 57)) (.cells ([.int .i64 4, .int .u8 0, .slice (some ⟨vb, voff, none⟩) 1 vcap] : List Value).toArray 61)
    rw [World.size_alloc] at h
    exact rval3_in h rfl
  have hkW : Kept R R Wc W := hk.trans (Kept.of_below hal)
  have hSW := hS.later hal
  have Hcc := Lib.hid (fun (w' : World) (h : Kept R R W w') => ccells_kept hcc h (by omega))
  have Hvv := Lib.hid (fun (w' : World) (h : Kept R R W w') => v3_kept hvb3 hvb3.lt h (by omega))
  have p0 : W.cell? ⟨w.heap.size, 0, none⟩ = some (.int .i64 4) := hcc.c0
  have c258 : ∀ L : HeldW (Kept R R W), L.val.cell? ⟨w.heap.size, 258, none⟩ = some (.slice (some ⟨cb, coff, none⟩) 2 ccap) := fun L => (Hcc.out _ L.ok).c258
  have v0f : ∀ L : HeldW (Kept R R W), L.val.cell? ⟨w.heap.size + 1, 0, none⟩ = some (.int .i64 4) := fun L => (Hvv.out _ L.ok).2 0 (by decide)
  have v2f : ∀ L : HeldW (Kept R R W), L.val.cell? ⟨w.heap.size + 1, 2, none⟩ = some (.slice (some ⟨vb, voff, none⟩) 1 vcap) := fun L => (Hvv.out _ L.ok).2 2 (by decide)
  have hcapI : (2 : Int) ≤ ccap := by omega
  have hvcapI : (1 : Int) ≤ vcap := by omega
  have hnI : ((n : Int) + 1) ≤ 9223372036854775807 := by omega
  have HW := Lib.hid (And.intro hkW (And.intro hSW (And.intro hal (And.intro hWR hn))))
  have Hne : Nonempty (HeldW (Kept R R W)) := ⟨⟨W, Kept.refl _ _ _⟩⟩
  have HQ0 := Lib.hid (fun (w' : World) (a : Int) (S : Gs) (h : Kept R R Wc w') (hs : SpBox w' R n S) => hx _ es0 ds0 Wc w' R n a S hb1 hch0 hdat0 hWR hn h hs)
  clear hch0 hdat0
  clear hx hb1
  generalize K.rcCells 4 st kk (.slice (some ⟨cb, coff, none⟩) 2 ccap) = C at hW ⊢
  clear hcc hvb3 hal hkW hSW hRw hk hS hWR hn 
  go_enter Tryd.func45, Tryd.ntmps45
  go_upto_region 1 with (first
    | (refine Go.Great.wpList_boxTo rfl _ _ rfl _ rfl w.heap.size rfl C.toArray rfl ?_)
    | fail)
  rw [← hW]
  clear hW
  go_upto_region 7 with fail
  obtain ⟨wd, hwd⟩ : ∃ wd, wd = W.drew := ⟨_, rfl⟩
  have hBd : Below W.heap.size W wd := by rw [hwd]; exact (Below.refl _ _).drew
  have hKd : Kept R R W wd := (Kept.refl R R W).trans (Kept.of_below hBd)
  have hSd := (HW.out.2.1).later hBd
  refine wp_region_hold (Kept R R W) (.plain 0 (.plain 1 (.plain 2 (.plain 3 (.plain 4 (.plain 5 (.plain 6 (.plain 7 (.plain 8 (.plain 9 (.plain 10 (.plain 11 (.plain 12 (.sole 13 (.plain 14 .done))))))))))))))) (by rw [← hwd]; exact hKd) (by kernel_rfl) (by kernel_rfl) (fun c a d v w h => by cases d <;> exact h) ?_
  rw [← hwd]
  clear hwd
  repeat (first
      | (refine' hold_skip ?_ ?_ ?_
         rotate_left 1
         · simp only [List.getElem?_toArray, List.getElem?_cons_zero, List.getElem?_cons_succ]; exact rfl
         · exact rfl
         simp only [Act.put, List.setIfInBounds_toArray, List.set_cons_zero, List.set_cons_succ])
      | (refine' hold_want ?_ ?_ (fun J hJ => ?_)
         rotate_left 1
         · simp only [List.getElem?_toArray, List.getElem?_cons_zero, List.getElem?_cons_succ]; exact rfl
         · exact rfl
         first
         | (refine quiet_load_rc _ rfl cb (coff + 0) es0 rfl (fun w' ⟨L, hL⟩ => hL ▸ HE0.out _ (HW.out.1.trans L.ok)) ?_; refine hJ _ ?_; clear hJ J; try simp only [Act.put, List.setIfInBounds_toArray, List.set_cons_zero, List.set_cons_succ])
         | (refine quiet_load_refval _ rfl vb (voff + 0) ds0 rfl (fun w' ⟨L, hL⟩ => hL ▸ HD0.out _ (HW.out.1.trans L.ok)) ?_; refine hJ _ ?_; clear hJ J; try simp only [Act.put, List.setIfInBounds_toArray, List.set_cons_zero, List.set_cons_succ])
         | (refine quiet_extract _ _ rfl _ _ rfl rfl ?_; refine hJ _ ?_; clear hJ J; try simp only [Act.put, List.setIfInBounds_toArray, List.set_cons_zero, List.set_cons_succ])
         | (go_big_quiet_op; refine hJ _ ?_; clear hJ J; try simp only [Act.put, List.setIfInBounds_toArray, List.set_cons_zero, List.set_cons_succ])))
  refine' hold_sole ?_ ?_ (fun J hJ => ?_)
  rotate_left 1
  · simp only [List.getElem?_toArray, List.getElem?_cons_zero, List.getElem?_cons_succ]; exact rfl
  · exact rfl
  go_simp
  refine (HQ0.out _ _ _ (HW.out.1.trans hKd) hSd).mono ?_
  rintro e w20 ⟨rfl, hS20, hk20⟩
  have hK20 : Kept R R W w20 := hKd.trans hk20
  refine hJ _ _ hK20 ?_
  clear hJ J hk20
  try simp only [Act.put, List.setIfInBounds_toArray, List.set_cons_zero, List.set_cons_succ]
  repeat (first
      | (refine' hold_skip ?_ ?_ ?_
         rotate_left 1
         · simp only [List.getElem?_toArray, List.getElem?_cons_zero, List.getElem?_cons_succ]; exact rfl
         · exact rfl
         simp only [Act.put, List.setIfInBounds_toArray, List.set_cons_zero, List.set_cons_succ])
      | (refine' hold_want ?_ ?_ (fun J hJ => ?_)
         rotate_left 1
         · simp only [List.getElem?_toArray, List.getElem?_cons_zero, List.getElem?_cons_succ]; exact rfl
         · exact rfl
         first
         | (refine quiet_load_rc _ rfl cb (coff + 0) es0 rfl (fun w' ⟨L, hL⟩ => hL ▸ HE0.out _ (HW.out.1.trans L.ok)) ?_; refine hJ _ ?_; clear hJ J; try simp only [Act.put, List.setIfInBounds_toArray, List.set_cons_zero, List.set_cons_succ])
         | (refine quiet_load_refval _ rfl vb (voff + 0) ds0 rfl (fun w' ⟨L, hL⟩ => hL ▸ HD0.out _ (HW.out.1.trans L.ok)) ?_; refine hJ _ ?_; clear hJ J; try simp only [Act.put, List.setIfInBounds_toArray, List.set_cons_zero, List.set_cons_succ])
         | (refine quiet_extract _ _ rfl _ _ rfl rfl ?_; refine hJ _ ?_; clear hJ J; try simp only [Act.put, List.setIfInBounds_toArray, List.set_cons_zero, List.set_cons_succ])
         | (go_big_quiet_op; refine hJ _ ?_; clear hJ J; try simp only [Act.put, List.setIfInBounds_toArray, List.set_cons_zero, List.set_cons_succ])))
  refine hold_done ?_
  have HF := Lib.hid (And.intro hS20 hK20)
  go_wp2_with fail
  go_ret
  exact ⟨rfl, HF.out.1, (Kept.of_below HW.out.2.2.1).trans HF.out.2⟩

set_option maxHeartbeats 8000000 in
theorem sp_right {st : BitVec 256} {kk : Int} {x y : K.Cr} (hy : SpOk y) {v1 : Vl} (hb1 : bel y v1 = true) : ∀ (cs ds : List Value) (Wc w : World) (R n : Nat) (a : Int) (S : Gs), K.Cr.ref Wc (.mk 4 st kk [x, y]) cs → Vl.at Wc (.mk 5 0 [v1]) ds → Wc.heap.size ≤ R → n ≤ 32 → Kept R R Wc w → SpBox w R n S →
    Calls Tryd.prog 45 #[.agg cs.toArray, .agg ds.toArray, .int .i64 (wrap64 a), .slice (some ⟨R, 0, none⟩) (n + 1) (n + 1)] w (SpRun w R n (cap (.mk 4 st kk [x, y]) (.mk 5 0 [v1]) (a, S)).2 (.int .i64 (wrap64 (cap (.mk 4 st kk [x, y]) (.mk 5 0 [v1]) (a, S)).1))) := by
  intro cs ds Wc w R n a S hat hva hWR hn hk hS
  have e : cap (.mk 4 st kk [x, y]) (.mk 5 0 [v1]) (a, S) = cap y v1 (a, S) := by rw [cap_mk]; rfl
  rw [e]
  clear e
  rw [K.refc_mk] at hat
  obtain ⟨_, _, ca, ccap, rfl, _, hl⟩ := hat
  obtain ⟨cb, coff, rfl, hccap, hcb, hcr⟩ := hl.resolve_left (by simp)
  obtain ⟨es0, hes0, hcell0, hch0⟩ := K.coresRef_get Wc cb [x, y] coff hcr 0 (by simp)
  have HE0 := Lib.hid (fun (w' : World) (h : Kept R R Wc w') => refc_kept (⟨hes0, hcell0⟩ : K.RefC Wc cb (coff + 0 * 259) es0) hcb h (by omega))
  clear hcell0 hes0
  obtain ⟨es1, hes1, hcell1, hch1⟩ := K.coresRef_get Wc cb [x, y] coff hcr 1 (by simp)
  have HE1 := Lib.hid (fun (w' : World) (h : Kept R R Wc w') => refc_kept (⟨hes1, hcell1⟩ : K.RefC Wc cb (coff + 1 * 259) es1) hcb h (by omega))
  clear hcell1 hes1
  clear hcr hl
  rw [at_mk] at hva
  obtain ⟨_, _, va, vcap, rfl, hvmax, hvl⟩ := hva
  obtain ⟨vb, voff, rfl, hvcap, hvb, hvr⟩ := hvl.resolve_left (by simp)
  obtain ⟨ds0, hd0, hdat0⟩ := vals_get Wc vb [v1] voff hvr 0 (by simp)
  have HD0 := Lib.hid (fun (w' : World) (h : Kept R R Wc w') => v3_kept hd0 hvb h (by omega))
  clear hd0
  clear hvr hvl hvmax
  simp only [List.length_cons, List.length_nil, Nat.zero_add, Nat.reduceAdd] at *
  obtain ⟨W, hW⟩ : ∃ W, W = (w.alloc (.cells (K.rcCells 4 st kk (.slice (some ⟨cb, coff, none⟩) 2 ccap)).toArray 57)).alloc (.cells ([.int .i64 5, .int .u8 0, .slice (some ⟨vb, voff, none⟩) 1 vcap] : List Value).toArray 61) := ⟨_, rfl⟩
  have hal : Below w.heap.size w W := by rw [hW]; exact ((Below.refl _ _).alloc (Nat.le_refl _) _).alloc (by simp) _
  have hRw := hS.lt
  have hcc : K.CCells W w.heap.size 4 st kk (.slice (some ⟨cb, coff, none⟩) 2 ccap) := by rw [hW]; exact (K.ccells_box (World.alloc_heap_new w _)).later (K.alloc_below _ _)
  have hvb3 : Val3 W (w.heap.size + 1) 0 ([.int .i64 5, .int .u8 0, .slice (some ⟨vb, voff, none⟩) 1 vcap] : List Value) := by
    rw [hW]
    have h := World.alloc_heap_new (w.alloc (.cells (K.rcCells 4 st kk (.slice (some ⟨cb, coff, none⟩) 2 ccap)).toArray 57)) (.cells ([.int .i64 5, .int .u8 0, .slice (some ⟨vb, voff, none⟩) 1 vcap] : List Value).toArray 61)
    rw [World.size_alloc] at h
    exact rval3_in h rfl
  have hkW : Kept R R Wc W := hk.trans (Kept.of_below hal)
  have hSW := hS.later hal
  have Hcc := Lib.hid (fun (w' : World) (h : Kept R R W w') => ccells_kept hcc h (by omega))
  have Hvv := Lib.hid (fun (w' : World) (h : Kept R R W w') => v3_kept hvb3 hvb3.lt h (by omega))
  have p0 : W.cell? ⟨w.heap.size, 0, none⟩ = some (.int .i64 4) := hcc.c0
  have c258 : ∀ L : HeldW (Kept R R W), L.val.cell? ⟨w.heap.size, 258, none⟩ = some (.slice (some ⟨cb, coff, none⟩) 2 ccap) := fun L => (Hcc.out _ L.ok).c258
  have v0f : ∀ L : HeldW (Kept R R W), L.val.cell? ⟨w.heap.size + 1, 0, none⟩ = some (.int .i64 5) := fun L => (Hvv.out _ L.ok).2 0 (by decide)
  have v2f : ∀ L : HeldW (Kept R R W), L.val.cell? ⟨w.heap.size + 1, 2, none⟩ = some (.slice (some ⟨vb, voff, none⟩) 1 vcap) := fun L => (Hvv.out _ L.ok).2 2 (by decide)
  have hcapI : (2 : Int) ≤ ccap := by omega
  have hvcapI : (1 : Int) ≤ vcap := by omega
  have hnI : ((n : Int) + 1) ≤ 9223372036854775807 := by omega
  have HW := Lib.hid (And.intro hkW (And.intro hSW (And.intro hal (And.intro hWR hn))))
  have Hne : Nonempty (HeldW (Kept R R W)) := ⟨⟨W, Kept.refl _ _ _⟩⟩
  have HQ0 := Lib.hid (fun (w' : World) (a : Int) (S : Gs) (h : Kept R R Wc w') (hs : SpBox w' R n S) => hy _ es1 ds0 Wc w' R n a S hb1 hch1 hdat0 hWR hn h hs)
  clear hch1 hdat0
  clear hy hb1
  generalize K.rcCells 4 st kk (.slice (some ⟨cb, coff, none⟩) 2 ccap) = C at hW ⊢
  clear hcc hvb3 hal hkW hSW hRw hk hS hWR hn 
  go_enter Tryd.func45, Tryd.ntmps45
  go_upto_region 1 with (first
    | (refine Go.Great.wpList_boxTo rfl _ _ rfl _ rfl w.heap.size rfl C.toArray rfl ?_)
    | fail)
  rw [← hW]
  clear hW
  go_upto_region 7 with fail
  obtain ⟨wd, hwd⟩ : ∃ wd, wd = W.drew := ⟨_, rfl⟩
  have hBd : Below W.heap.size W wd := by rw [hwd]; exact (Below.refl _ _).drew
  have hKd : Kept R R W wd := (Kept.refl R R W).trans (Kept.of_below hBd)
  have hSd := (HW.out.2.1).later hBd
  refine wp_region_hold (Kept R R W) (.plain 0 (.plain 1 (.plain 2 (.plain 3 (.plain 4 (.plain 5 (.plain 6 (.plain 7 (.plain 8 (.plain 9 (.plain 10 (.plain 11 (.plain 12 (.sole 13 (.plain 14 .done))))))))))))))) (by rw [← hwd]; exact hKd) (by kernel_rfl) (by kernel_rfl) (fun c a d v w h => by cases d <;> exact h) ?_
  rw [← hwd]
  clear hwd
  repeat (first
      | (refine' hold_skip ?_ ?_ ?_
         rotate_left 1
         · simp only [List.getElem?_toArray, List.getElem?_cons_zero, List.getElem?_cons_succ]; exact rfl
         · exact rfl
         simp only [Act.put, List.setIfInBounds_toArray, List.set_cons_zero, List.set_cons_succ])
      | (refine' hold_want ?_ ?_ (fun J hJ => ?_)
         rotate_left 1
         · simp only [List.getElem?_toArray, List.getElem?_cons_zero, List.getElem?_cons_succ]; exact rfl
         · exact rfl
         first
         | (refine quiet_load_rc _ rfl cb (coff + 259) es1 rfl (fun w' ⟨L, hL⟩ => hL ▸ HE1.out _ (HW.out.1.trans L.ok)) ?_; refine hJ _ ?_; clear hJ J; try simp only [Act.put, List.setIfInBounds_toArray, List.set_cons_zero, List.set_cons_succ])
         | (refine quiet_load_refval _ rfl vb (voff + 0) ds0 rfl (fun w' ⟨L, hL⟩ => hL ▸ HD0.out _ (HW.out.1.trans L.ok)) ?_; refine hJ _ ?_; clear hJ J; try simp only [Act.put, List.setIfInBounds_toArray, List.set_cons_zero, List.set_cons_succ])
         | (refine quiet_extract _ _ rfl _ _ rfl rfl ?_; refine hJ _ ?_; clear hJ J; try simp only [Act.put, List.setIfInBounds_toArray, List.set_cons_zero, List.set_cons_succ])
         | (go_big_quiet_op; refine hJ _ ?_; clear hJ J; try simp only [Act.put, List.setIfInBounds_toArray, List.set_cons_zero, List.set_cons_succ])))
  refine' hold_sole ?_ ?_ (fun J hJ => ?_)
  rotate_left 1
  · simp only [List.getElem?_toArray, List.getElem?_cons_zero, List.getElem?_cons_succ]; exact rfl
  · exact rfl
  go_simp
  refine (HQ0.out _ _ _ (HW.out.1.trans hKd) hSd).mono ?_
  rintro e w20 ⟨rfl, hS20, hk20⟩
  have hK20 : Kept R R W w20 := hKd.trans hk20
  refine hJ _ _ hK20 ?_
  clear hJ J hk20
  try simp only [Act.put, List.setIfInBounds_toArray, List.set_cons_zero, List.set_cons_succ]
  repeat (first
      | (refine' hold_skip ?_ ?_ ?_
         rotate_left 1
         · simp only [List.getElem?_toArray, List.getElem?_cons_zero, List.getElem?_cons_succ]; exact rfl
         · exact rfl
         simp only [Act.put, List.setIfInBounds_toArray, List.set_cons_zero, List.set_cons_succ])
      | (refine' hold_want ?_ ?_ (fun J hJ => ?_)
         rotate_left 1
         · simp only [List.getElem?_toArray, List.getElem?_cons_zero, List.getElem?_cons_succ]; exact rfl
         · exact rfl
         first
         | (refine quiet_load_rc _ rfl cb (coff + 259) es1 rfl (fun w' ⟨L, hL⟩ => hL ▸ HE1.out _ (HW.out.1.trans L.ok)) ?_; refine hJ _ ?_; clear hJ J; try simp only [Act.put, List.setIfInBounds_toArray, List.set_cons_zero, List.set_cons_succ])
         | (refine quiet_load_refval _ rfl vb (voff + 0) ds0 rfl (fun w' ⟨L, hL⟩ => hL ▸ HD0.out _ (HW.out.1.trans L.ok)) ?_; refine hJ _ ?_; clear hJ J; try simp only [Act.put, List.setIfInBounds_toArray, List.set_cons_zero, List.set_cons_succ])
         | (refine quiet_extract _ _ rfl _ _ rfl rfl ?_; refine hJ _ ?_; clear hJ J; try simp only [Act.put, List.setIfInBounds_toArray, List.set_cons_zero, List.set_cons_succ])
         | (go_big_quiet_op; refine hJ _ ?_; clear hJ J; try simp only [Act.put, List.setIfInBounds_toArray, List.set_cons_zero, List.set_cons_succ])))
  refine hold_done ?_
  have HF := Lib.hid (And.intro hS20 hK20)
  go_wp2_with fail
  go_ret
  exact ⟨rfl, HF.out.1, (Kept.of_below HW.out.2.2.1).trans HF.out.2⟩

theorem sp_alt {st : BitVec 256} {kk : Int} {x y : K.Cr} (hx : SpOk x) (hy : SpOk y) : SpOk (.mk 4 st kk [x, y]) := by
  intro v cs ds Wc w R n a S hbel hat hva hWR hn hk hS
  obtain ⟨v1, ⟨rfl, h1⟩ | ⟨rfl, h1⟩⟩ := bel_four hbel
  · exact sp_left hx h1 cs ds Wc w R n a S hat hva hWR hn hk hS
  · exact sp_right hy h1 cs ds Wc w R n a S hat hva hWR hn hk hS
end V
end Go.Proofs.YtonhmjfopidacaaDoor
namespace Go.Proofs.YtonhmjfopidacaaDoor
namespace V
set_option maxRecDepth 100000
open Go.RowKit
set_option maxHeartbeats 8000000 in
theorem sp_anew {st : BitVec 256} {kk : Int} {x : K.Cr} (hfx : x.form = true) (hcx : x.count ≤ 1000000) (hx : SpOk x) : SpOk (.mk 7 st kk [x]) := by
  intro v cs ds Wc w R n a S hbel hat hva hWR hn hk hS
  have hb1 := bel_seven hbel
  have e : cap (.mk 7 st kk [x]) v (a, S) = cap x v (a, unsetG (fun t => hasG t x) S) := by
    cases v; rw [cap_mk]; unfold capT; rw [one_group]; rfl
  rw [e]
  clear e hbel
  rw [K.refc_mk] at hat
  obtain ⟨_, _, ca, ccap, rfl, _, hl⟩ := hat
  obtain ⟨cb, coff, rfl, hccap, hcb, hcr⟩ := hl.resolve_left (by simp)
  obtain ⟨es0, hes0, hcell0, hch0⟩ := K.coresRef_get Wc cb [x] coff hcr 0 (by simp)
  have HE0 := Lib.hid (fun (w' : World) (h : Kept R R Wc w') => refc_kept (⟨hes0, hcell0⟩ : K.RefC Wc cb (coff + 0 * 259) es0) hcb h (by omega))
  clear hcell0 hes0
  clear hcr hl
  simp only [List.length_cons, List.length_nil, Nat.zero_add] at *
  obtain ⟨W, hW⟩ : ∃ W, W = (w.alloc (.cells (K.rcCells 7 st kk (.slice (some ⟨cb, coff, none⟩) 1 ccap)).toArray 57)).alloc (.cells (ds : List Value).toArray 61) := ⟨_, rfl⟩
  have hal : Below w.heap.size w W := by rw [hW]; exact ((Below.refl _ _).alloc (Nat.le_refl _) _).alloc (by simp) _
  have hRw := hS.lt
  have hcc : K.CCells W w.heap.size 7 st kk (.slice (some ⟨cb, coff, none⟩) 1 ccap) := by rw [hW]; exact (K.ccells_box (World.alloc_heap_new w _)).later (K.alloc_below _ _)
  have hvb3 : Val3 W (w.heap.size + 1) 0 (ds : List Value) := by
    rw [hW]
    have h := World.alloc_heap_new (w.alloc (.cells (K.rcCells 7 st kk (.slice (some ⟨cb, coff, none⟩) 1 ccap)).toArray 57)) (.cells (ds : List Value).toArray 61)
    rw [World.size_alloc] at h
    exact rval3_in h (at_len hva)
  have hkW : Kept R R Wc W := hk.trans (Kept.of_below hal)
  have hSW := hS.later hal
  have Hcc := Lib.hid (fun (w' : World) (h : Kept R R W w') => ccells_kept hcc h (by omega))
  have Hvv := Lib.hid (fun (w' : World) (h : Kept R R W w') => v3_kept hvb3 hvb3.lt h (by omega))
  have p0 : W.cell? ⟨w.heap.size, 0, none⟩ = some (.int .i64 7) := hcc.c0
  have c258 : ∀ L : HeldW (Kept R R W), L.val.cell? ⟨w.heap.size, 258, none⟩ = some (.slice (some ⟨cb, coff, none⟩) 1 ccap) := fun L => (Hcc.out _ L.ok).c258
  have hcapI : (1 : Int) ≤ ccap := by omega
  have hnI : ((n : Int) + 1) ≤ 9223372036854775807 := by omega
  have HW := Lib.hid (And.intro hkW (And.intro hSW (And.intro hal (And.intro hWR hn))))
  have Hne : Nonempty (HeldW (Kept R R W)) := ⟨⟨W, Kept.refl _ _ _⟩⟩
  have HU := Lib.hid (fun (w' : World) (P : Gs) (h : Kept R R Wc w') (hs : SpBox w' R n P) => refUnset_walk hch0 hfx h hWR hcx hs hn)
  have HQ0 := Lib.hid (fun (w' : World) (a : Int) (S : Gs) (h : Kept R R Wc w') (hs : SpBox w' R n S) => hx _ es0 ds Wc w' R n a S hb1 hch0 hva hWR hn h hs)
  have p258 := c258 ⟨W, Kept.refl _ _ _⟩
  replace p258 : W.cell? ⟨w.heap.size, 258, none⟩ = _ := p258
  obtain ⟨kv, zv, av, lnv, capv, rfl⟩ := at_lit hva
  clear hch0 hx hb1 hva hcx hfx
  generalize K.rcCells 7 st kk (.slice (some ⟨cb, coff, none⟩) 1 ccap) = C at hW ⊢
  clear hcc hvb3 hal hkW hSW hRw hk hS hWR hn 
  go_enter Tryd.func45, Tryd.ntmps45
  go_upto_region 1 with (first
    | (refine Go.Great.wpList_boxTo rfl _ _ rfl _ rfl w.heap.size rfl C.toArray rfl ?_)
    | fail)
  rw [← hW]
  clear hW
  go_upto_region 21 with (first
    | (refine K.wpList_load_refcore rfl _ rfl cb (coff + 0 * 259) es0 rfl (HE0.out _ HW.out.1) ?_)
    | (go_at_call 61; refine (HU.out _ _ HW.out.1 HW.out.2.1).mono ?_; rintro e w2 ⟨rfl, hS2, hk2⟩; have H2 := Lib.hid (And.intro hS2 ((Kept.refl R R W).trans hk2)); clear hS2 hk2)
    | fail)
  obtain ⟨wd, hwd⟩ : ∃ wd, wd = w2.drew := ⟨_, rfl⟩
  have hBd : Below w2.heap.size w2 wd := by rw [hwd]; exact (Below.refl _ _).drew
  have hKd : Kept R R W wd := H2.out.2.trans (Kept.of_below hBd)
  have hSd := (H2.out.1).later hBd
  refine wp_region_hold (Kept R R W) (.plain 0 (.plain 1 (.plain 2 (.plain 3 (.plain 4 (.plain 5 (.plain 6 (.sole 7 (.plain 8 .done))))))))) (by rw [← hwd]; exact hKd) (by kernel_rfl) (by kernel_rfl) (fun c a d v w h => by cases d <;> exact h) ?_
  rw [← hwd]
  clear hwd
  repeat (first
      | (refine' hold_skip ?_ ?_ ?_
         rotate_left 1
         · simp only [List.getElem?_toArray, List.getElem?_cons_zero, List.getElem?_cons_succ]; exact rfl
         · exact rfl
         simp only [Act.put, List.setIfInBounds_toArray, List.set_cons_zero, List.set_cons_succ])
      | (refine' hold_want ?_ ?_ (fun J hJ => ?_)
         rotate_left 1
         · simp only [List.getElem?_toArray, List.getElem?_cons_zero, List.getElem?_cons_succ]; exact rfl
         · exact rfl
         first
         | (refine quiet_load_rc _ rfl cb (coff + 0) es0 rfl (fun w' ⟨L, hL⟩ => hL ▸ HE0.out _ (HW.out.1.trans L.ok)) ?_; refine hJ _ ?_; clear hJ J; try simp only [Act.put, List.setIfInBounds_toArray, List.set_cons_zero, List.set_cons_succ])
         | (refine quiet_load_refval _ rfl (w.heap.size + 1) 0 _ rfl (fun w' ⟨L, hL⟩ => hL ▸ Hvv.out _ L.ok) ?_; refine hJ _ ?_; clear hJ J; try simp only [Act.put, List.setIfInBounds_toArray, List.set_cons_zero, List.set_cons_succ])
         | (refine quiet_extract _ _ rfl _ _ rfl rfl ?_; refine hJ _ ?_; clear hJ J; try simp only [Act.put, List.setIfInBounds_toArray, List.set_cons_zero, List.set_cons_succ])
         | (go_big_quiet_op; refine hJ _ ?_; clear hJ J; try simp only [Act.put, List.setIfInBounds_toArray, List.set_cons_zero, List.set_cons_succ])))
  refine' hold_sole ?_ ?_ (fun J hJ => ?_)
  rotate_left 1
  · simp only [List.getElem?_toArray, List.getElem?_cons_zero, List.getElem?_cons_succ]; exact rfl
  · exact rfl
  go_simp
  refine (HQ0.out _ _ _ (HW.out.1.trans hKd) hSd).mono ?_
  rintro e w20 ⟨rfl, hS20, hk20⟩
  have hK20 : Kept R R W w20 := hKd.trans hk20
  refine hJ _ _ hK20 ?_
  clear hJ J hk20
  try simp only [Act.put, List.setIfInBounds_toArray, List.set_cons_zero, List.set_cons_succ]
  repeat (first
      | (refine' hold_skip ?_ ?_ ?_
         rotate_left 1
         · simp only [List.getElem?_toArray, List.getElem?_cons_zero, List.getElem?_cons_succ]; exact rfl
         · exact rfl
         simp only [Act.put, List.setIfInBounds_toArray, List.set_cons_zero, List.set_cons_succ])
      | (refine' hold_want ?_ ?_ (fun J hJ => ?_)
         rotate_left 1
         · simp only [List.getElem?_toArray, List.getElem?_cons_zero, List.getElem?_cons_succ]; exact rfl
         · exact rfl
         first
         | (refine quiet_load_rc _ rfl cb (coff + 0) es0 rfl (fun w' ⟨L, hL⟩ => hL ▸ HE0.out _ (HW.out.1.trans L.ok)) ?_; refine hJ _ ?_; clear hJ J; try simp only [Act.put, List.setIfInBounds_toArray, List.set_cons_zero, List.set_cons_succ])
         | (refine quiet_load_refval _ rfl (w.heap.size + 1) 0 _ rfl (fun w' ⟨L, hL⟩ => hL ▸ Hvv.out _ L.ok) ?_; refine hJ _ ?_; clear hJ J; try simp only [Act.put, List.setIfInBounds_toArray, List.set_cons_zero, List.set_cons_succ])
         | (refine quiet_extract _ _ rfl _ _ rfl rfl ?_; refine hJ _ ?_; clear hJ J; try simp only [Act.put, List.setIfInBounds_toArray, List.set_cons_zero, List.set_cons_succ])
         | (go_big_quiet_op; refine hJ _ ?_; clear hJ J; try simp only [Act.put, List.setIfInBounds_toArray, List.set_cons_zero, List.set_cons_succ])))
  refine hold_done ?_
  have HF := Lib.hid (And.intro hS20 hK20)
  go_wp2_with fail
  go_ret
  exact ⟨rfl, HF.out.1, (Kept.of_below HW.out.2.2.1).trans HF.out.2⟩

set_option maxHeartbeats 8000000 in
theorem sp_group {st : BitVec 256} {m : Nat} {x : K.Cr} (hx : SpOk x) : SpOk (.mk 6 st (m : Int) [x]) := by
  intro v cs ds Wc w R n a S hbel hat hva hWR hn hk hS
  obtain ⟨v1, rfl, hb1⟩ := bel_six hbel
  obtain ⟨q, hq⟩ : ∃ q, q = cap x v1 (a, S) := ⟨_, rfl⟩
  have e : cap (.mk 6 st (m : Int) [x]) (.mk 7 0 [v1]) (a, S) = (q.1, setG m (a, q.1) q.2) := by rw [hq, cap_mk]; rfl
  rw [e]
  clear e hbel
  rw [K.refc_mk] at hat
  obtain ⟨_, _, ca, ccap, rfl, _, hl⟩ := hat
  obtain ⟨cb, coff, rfl, hccap, hcb, hcr⟩ := hl.resolve_left (by simp)
  obtain ⟨es0, hes0, hcell0, hch0⟩ := K.coresRef_get Wc cb [x] coff hcr 0 (by simp)
  have HE0 := Lib.hid (fun (w' : World) (h : Kept R R Wc w') => refc_kept (⟨hes0, hcell0⟩ : K.RefC Wc cb (coff + 0 * 259) es0) hcb h (by omega))
  clear hcell0 hes0
  clear hcr hl
  rw [at_mk] at hva
  obtain ⟨_, _, va, vcap, rfl, hvmax, hvl⟩ := hva
  obtain ⟨vb, voff, rfl, hvcap, hvb, hvr⟩ := hvl.resolve_left (by simp)
  obtain ⟨ds0, hd0, hdat0⟩ := vals_get Wc vb [v1] voff hvr 0 (by simp)
  have HD0 := Lib.hid (fun (w' : World) (h : Kept R R Wc w') => v3_kept hd0 hvb h (by omega))
  clear hd0
  clear hvr hvl hvmax
  simp only [List.length_cons, List.length_nil, Nat.zero_add] at *
  obtain ⟨W, hW⟩ : ∃ W, W = (w.alloc (.cells (K.rcCells 6 st (m : Int) (.slice (some ⟨cb, coff, none⟩) 1 ccap)).toArray 57)).alloc (.cells ([.int .i64 7, .int .u8 0, .slice (some ⟨vb, voff, none⟩) 1 vcap] : List Value).toArray 61) := ⟨_, rfl⟩
  have hal : Below w.heap.size w W := by rw [hW]; exact ((Below.refl _ _).alloc (Nat.le_refl _) _).alloc (by simp) _
  have hRw := hS.lt
  have hcc : K.CCells W w.heap.size 6 st (m : Int) (.slice (some ⟨cb, coff, none⟩) 1 ccap) := by rw [hW]; exact (K.ccells_box (World.alloc_heap_new w _)).later (K.alloc_below _ _)
  have hvb3 : Val3 W (w.heap.size + 1) 0 ([.int .i64 7, .int .u8 0, .slice (some ⟨vb, voff, none⟩) 1 vcap] : List Value) := by
    rw [hW]
    have h := World.alloc_heap_new (w.alloc (.cells (K.rcCells 6 st (m : Int) (.slice (some ⟨cb, coff, none⟩) 1 ccap)).toArray 57)) (.cells ([.int .i64 7, .int .u8 0, .slice (some ⟨vb, voff, none⟩) 1 vcap] : List Value).toArray 61)
    rw [World.size_alloc] at h
    exact rval3_in h rfl
  have hkW : Kept R R Wc W := hk.trans (Kept.of_below hal)
  have hSW := hS.later hal
  have Hcc := Lib.hid (fun (w' : World) (h : Kept R R W w') => ccells_kept hcc h (by omega))
  have Hvv := Lib.hid (fun (w' : World) (h : Kept R R W w') => v3_kept hvb3 hvb3.lt h (by omega))
  have p0 : W.cell? ⟨w.heap.size, 0, none⟩ = some (.int .i64 6) := hcc.c0
  have c258 : ∀ L : HeldW (Kept R R W), L.val.cell? ⟨w.heap.size, 258, none⟩ = some (.slice (some ⟨cb, coff, none⟩) 1 ccap) := fun L => (Hcc.out _ L.ok).c258
  have v0f : ∀ L : HeldW (Kept R R W), L.val.cell? ⟨w.heap.size + 1, 0, none⟩ = some (.int .i64 7) := fun L => (Hvv.out _ L.ok).2 0 (by decide)
  have v2f : ∀ L : HeldW (Kept R R W), L.val.cell? ⟨w.heap.size + 1, 2, none⟩ = some (.slice (some ⟨vb, voff, none⟩) 1 vcap) := fun L => (Hvv.out _ L.ok).2 2 (by decide)
  have hcapI : (1 : Int) ≤ ccap := by omega
  have hvcapI : (1 : Int) ≤ vcap := by omega
  have hnI : ((n : Int) + 1) ≤ 9223372036854775807 := by omega
  have HW := Lib.hid (And.intro hkW (And.intro hSW (And.intro hal (And.intro hWR hn))))
  have Hne : Nonempty (HeldW (Kept R R W)) := ⟨⟨W, Kept.refl _ _ _⟩⟩
  have HQ0 := Lib.hid (fun (w' : World) (h : Kept R R Wc w') (hs : SpBox w' R n S) => hq ▸ hx _ es0 ds0 Wc w' R n a S hb1 hch0 hdat0 hWR hn h hs)
  clear hch0 hdat0 hq hx hb1
  generalize K.rcCells 6 st (m : Int) (.slice (some ⟨cb, coff, none⟩) 1 ccap) = C at hW ⊢
  clear hcc hvb3 hal hkW hSW hRw hk hS hWR hn 
  go_enter Tryd.func45, Tryd.ntmps45
  go_upto_region 1 with (first
    | (refine Go.Great.wpList_boxTo rfl _ _ rfl _ rfl w.heap.size rfl C.toArray rfl ?_)
    | fail)
  rw [← hW]
  clear hW
  go_upto_region 15 with fail
  go_cut [10] from 85 to 95 (fun v wx => v = .int .i64 (wrap64 q.1) ∧ SpBox wx R n q.2 ∧ Kept R R W wx)
  case first =>
    rename_i J0 K' hR hMet
    obtain ⟨wd, hwd⟩ : ∃ wd, wd = W.drew := ⟨_, rfl⟩
    have hBd : Below W.heap.size W wd := by rw [hwd]; exact (Below.refl _ _).drew
    have hKd : Kept R R W wd := (Kept.refl R R W).trans (Kept.of_below hBd)
    have hSd := (HW.out.2.1).later hBd
    refine wp_region_hold (Kept R R W) (.plain 0 (.plain 1 (.plain 2 (.plain 3 (.plain 4 (.plain 5 (.plain 6 (.plain 7 (.plain 8 (.plain 9 (.sole 10 (.plain 11 .done)))))))))))) (by rw [← hwd]; exact hKd) (by kernel_rfl) (by kernel_rfl) (fun c a d v w h => by cases d <;> exact h) ?_
    rw [← hwd]
    clear hwd
    repeat (first
        | (refine' hold_skip ?_ ?_ ?_
           rotate_left 1
           · simp only [List.getElem?_toArray, List.getElem?_cons_zero, List.getElem?_cons_succ]; exact rfl
           · exact rfl
           simp only [Act.put, List.setIfInBounds_toArray, List.set_cons_zero, List.set_cons_succ])
        | (refine' hold_want ?_ ?_ (fun J hJ => ?_)
           rotate_left 1
           · simp only [List.getElem?_toArray, List.getElem?_cons_zero, List.getElem?_cons_succ]; exact rfl
           · exact rfl
           first
           | (refine quiet_load_rc _ rfl cb (coff + 0) es0 rfl (fun w' ⟨L, hL⟩ => hL ▸ HE0.out _ (HW.out.1.trans L.ok)) ?_; refine hJ _ ?_; clear hJ J; try simp only [Act.put, List.setIfInBounds_toArray, List.set_cons_zero, List.set_cons_succ])
           | (refine quiet_load_refval _ rfl vb (voff + 0) ds0 rfl (fun w' ⟨L, hL⟩ => hL ▸ HD0.out _ (HW.out.1.trans L.ok)) ?_; refine hJ _ ?_; clear hJ J; try simp only [Act.put, List.setIfInBounds_toArray, List.set_cons_zero, List.set_cons_succ])
           | (refine quiet_extract _ _ rfl _ _ rfl rfl ?_; refine hJ _ ?_; clear hJ J; try simp only [Act.put, List.setIfInBounds_toArray, List.set_cons_zero, List.set_cons_succ])
           | (go_big_quiet_op; refine hJ _ ?_; clear hJ J; try simp only [Act.put, List.setIfInBounds_toArray, List.set_cons_zero, List.set_cons_succ])))
    refine' hold_sole ?_ ?_ (fun J hJ => ?_)
    rotate_left 1
    · simp only [List.getElem?_toArray, List.getElem?_cons_zero, List.getElem?_cons_succ]; exact rfl
    · exact rfl
    go_simp
    refine (HQ0.out _ (HW.out.1.trans hKd) hSd).mono ?_
    rintro e w20 ⟨rfl, hS20, hk20⟩
    have hK20 : Kept R R W w20 := hKd.trans hk20
    refine hJ _ _ hK20 ?_
    clear hJ J hk20
    try simp only [Act.put, List.setIfInBounds_toArray, List.set_cons_zero, List.set_cons_succ]
    repeat (first
        | (refine' hold_skip ?_ ?_ ?_
           rotate_left 1
           · simp only [List.getElem?_toArray, List.getElem?_cons_zero, List.getElem?_cons_succ]; exact rfl
           · exact rfl
           simp only [Act.put, List.setIfInBounds_toArray, List.set_cons_zero, List.set_cons_succ])
        | (refine' hold_want ?_ ?_ (fun J hJ => ?_)
           rotate_left 1
           · simp only [List.getElem?_toArray, List.getElem?_cons_zero, List.getElem?_cons_succ]; exact rfl
           · exact rfl
           first
           | (refine quiet_load_rc _ rfl cb (coff + 0) es0 rfl (fun w' ⟨L, hL⟩ => hL ▸ HE0.out _ (HW.out.1.trans L.ok)) ?_; refine hJ _ ?_; clear hJ J; try simp only [Act.put, List.setIfInBounds_toArray, List.set_cons_zero, List.set_cons_succ])
           | (refine quiet_load_refval _ rfl vb (voff + 0) ds0 rfl (fun w' ⟨L, hL⟩ => hL ▸ HD0.out _ (HW.out.1.trans L.ok)) ?_; refine hJ _ ?_; clear hJ J; try simp only [Act.put, List.setIfInBounds_toArray, List.set_cons_zero, List.set_cons_succ])
           | (refine quiet_extract _ _ rfl _ _ rfl rfl ?_; refine hJ _ ?_; clear hJ J; try simp only [Act.put, List.setIfInBounds_toArray, List.set_cons_zero, List.set_cons_succ])
           | (go_big_quiet_op; refine hJ _ ?_; clear hJ J; try simp only [Act.put, List.setIfInBounds_toArray, List.set_cons_zero, List.set_cons_succ])))
    refine hold_done ?_
    refine hMet _ _ (Met.intro (hR _ _ ?_))
    exact ⟨_, _, _, _, _, _, _, _, _, _, _, _, ⟨rfl, hS20, hK20⟩, rfl⟩
  case rest =>
  obtain ⟨w2, rfl⟩ : ∃ w2, w2 = wc := ⟨_, rfl⟩
  obtain ⟨rfl, hS2, hk2⟩ := hcut
  have n257 : w2.cell? ⟨w.heap.size, 257, none⟩ = some (.int .i64 (m : Int)) := (Hcc.out _ hk2).c257
  have H2 := Lib.hid (And.intro hS2 hk2)
  clear hS2 hk2
  by_cases hmn : m ≤ n
  · have dm : decide ((m : Int) < ((n + 1 : Nat) : Int)) = true := by simp; omega
    have dm2 : decide ((m : Int) < (n : Int) + 1) = true := by simp; omega
    have dm3 : (m : Int) < (n : Int) + 1 := by omega
    have Hmn := Lib.hid hmn
    clear hmn
    go_wp2_with (first
      | (refine wpList_store_rspan rfl _ _ rfl R n m _ (wrap64 a) (wrap64 q.1) rfl rfl H2.out.1 Hmn.out (some (a, q.1)) rfl ?_; intro w4 hS4 _ ho4; have H4 := Lib.hid (And.intro hS4 ho4); clear hS4 ho4)
      | fail)
    go_ret
    exact ⟨rfl, H4.out.1, (Kept.of_below HW.out.2.2.1).trans (H2.out.2.trans (Kept.of_only H4.out.2))⟩
  · have dm : decide ((m : Int) < ((n + 1 : Nat) : Int)) = false := by simp; omega
    have dm2 : decide ((m : Int) < (n : Int) + 1) = false := by simp; omega
    have Hmn := Lib.hid hmn
    clear hmn
    go_wp2_with fail
    go_ret
    exact ⟨rfl, H2.out.1.ext fun t _ ht => (if_neg (by have := Hmn.out; omega)).symm, (Kept.of_below HW.out.2.2.1).trans H2.out.2⟩

set_option maxHeartbeats 8000000 in
theorem sp_star {st : BitVec 256} {kk : Int} {x : K.Cr} (hfx : x.form = true) (hcx : x.count ≤ 1000000) (hx : SpOk x) : SpOk (.mk 5 st kk [x]) := by
  intro v cs ds Wc w R n a S hbel hat hva hWR hn hk hS
  obtain ⟨vl, rfl, hbs⟩ := bel_five hbel
  obtain ⟨Fw, hF⟩ : ∃ Fw : Wk → Vl → Wk, Fw = fun q u => cap x u (q.1, unsetG (fun t => hasG t x) q.2) := ⟨_, rfl⟩
  have e : cap (.mk 5 st kk [x]) (.mk 6 0 vl) (a, S) = vl.foldl Fw (a, S) := by
    rw [cap_mk, hF]; unfold capT; rw [one_group]; rfl
  rw [e]
  clear e hbel
  rw [K.refc_mk] at hat
  obtain ⟨_, _, ca, ccap, rfl, _, hl⟩ := hat
  obtain ⟨cb, coff, rfl, hccap, hcb, hcr⟩ := hl.resolve_left (by simp)
  obtain ⟨es0, hes0, hcell0, hch0⟩ := K.coresRef_get Wc cb [x] coff hcr 0 (by simp)
  have HE0 := Lib.hid (fun (w' : World) (h : Kept R R Wc w') => refc_kept (⟨hes0, hcell0⟩ : K.RefC Wc cb (coff + 0 * 259) es0) hcb h (by omega))
  clear hcell0 hes0
  clear hcr hl
  rw [at_mk] at hva
  obtain ⟨_, _, va, vcap, rfl, hvmax, hvl⟩ := hva
  obtain ⟨ln, hln⟩ : ∃ ln, ln = vl.length := ⟨_, rfl⟩
  rw [← hln] at hvmax hvl ⊢
  have HLn := Lib.hid hln
  have Hvl := Lib.hid hvl
  have hlnI : (ln : Int) ≤ 9223372036854775807 := by unfold maxLen at hvmax; omega
  clear hvl hvmax hln
  simp only [List.length_cons, List.length_nil, Nat.zero_add] at *
  obtain ⟨W, hW⟩ : ∃ W, W = (w.alloc (.cells (K.rcCells 5 st kk (.slice (some ⟨cb, coff, none⟩) 1 ccap)).toArray 57)).alloc (.cells ([.int .i64 6, .int .u8 0, .slice va ln vcap] : List Value).toArray 61) := ⟨_, rfl⟩
  have hal : Below w.heap.size w W := by rw [hW]; exact ((Below.refl _ _).alloc (Nat.le_refl _) _).alloc (by simp) _
  have hRw := hS.lt
  have hcc : K.CCells W w.heap.size 5 st kk (.slice (some ⟨cb, coff, none⟩) 1 ccap) := by rw [hW]; exact (K.ccells_box (World.alloc_heap_new w _)).later (K.alloc_below _ _)
  have hvb3 : Val3 W (w.heap.size + 1) 0 ([.int .i64 6, .int .u8 0, .slice va ln vcap] : List Value) := by
    rw [hW]
    have h := World.alloc_heap_new (w.alloc (.cells (K.rcCells 5 st kk (.slice (some ⟨cb, coff, none⟩) 1 ccap)).toArray 57)) (.cells ([.int .i64 6, .int .u8 0, .slice va ln vcap] : List Value).toArray 61)
    rw [World.size_alloc] at h
    exact rval3_in h rfl
  have hkW : Kept R R Wc W := hk.trans (Kept.of_below hal)
  have hSW := hS.later hal
  have Hcc := Lib.hid (fun (w' : World) (h : Kept R R W w') => ccells_kept hcc h (by omega))
  have Hvv := Lib.hid (fun (w' : World) (h : Kept R R W w') => v3_kept hvb3 hvb3.lt h (by omega))
  have p0 : W.cell? ⟨w.heap.size, 0, none⟩ = some (.int .i64 5) := hcc.c0
  have c258 : ∀ L : HeldW (Kept R R W), L.val.cell? ⟨w.heap.size, 258, none⟩ = some (.slice (some ⟨cb, coff, none⟩) 1 ccap) := fun L => (Hcc.out _ L.ok).c258
  have v0f : ∀ L : HeldW (Kept R R W), L.val.cell? ⟨w.heap.size + 1, 0, none⟩ = some (.int .i64 6) := fun L => (Hvv.out _ L.ok).2 0 (by decide)
  have v2f : ∀ L : HeldW (Kept R R W), L.val.cell? ⟨w.heap.size + 1, 2, none⟩ = some (.slice va ln vcap) := fun L => (Hvv.out _ L.ok).2 2 (by decide)
  have hcapI : (1 : Int) ≤ ccap := by omega
  have hnI : ((n : Int) + 1) ≤ 9223372036854775807 := by omega
  have HW := Lib.hid (And.intro hkW (And.intro hSW (And.intro hal (And.intro hWR hn))))
  have Hne : Nonempty (HeldW (Kept R R W)) := ⟨⟨W, Kept.refl _ _ _⟩⟩
  have HU := Lib.hid (fun (w' : World) (P : Gs) (h : Kept R R Wc w') (hs : SpBox w' R n P) => refUnset_walk hch0 hfx h hWR hcx hs hn)
  have HQ := Lib.hid (fun (u : Vl) (hu : u ∈ vl) (ds0 : List Value) (hd : Vl.at Wc u ds0) (w' : World) (P : Wk) (h : Kept R R Wc w') (hs : SpBox w' R n (unsetG (fun t => hasG t x) P.2)) => hx u es0 ds0 Wc w' R n P.1 (unsetG (fun t => hasG t x) P.2) (hbs u hu) hch0 hd hWR hn h hs)
  have HF := Lib.hid hF
  have HR := Lib.hid (show Wc.heap.size ≤ R from hWR)
  clear hch0 hx hbs hcx hfx hF
  generalize K.rcCells 5 st kk (.slice (some ⟨cb, coff, none⟩) 1 ccap) = C at hW ⊢
  clear hcc hvb3 hal hkW hSW hRw hk hS hWR hn 
  go_enter Tryd.func45, Tryd.ntmps45
  go_upto_region 1 with (first
    | (refine Go.Great.wpList_boxTo rfl _ _ rfl _ rfl w.heap.size rfl C.toArray rfl ?_)
    | fail)
  rw [← hW]
  clear hW
  go_wp2_with fail
  go_loopw [2, 9] (fun t i wr => ∃ (j : Nat) (P : Wk), t = .int .i64 (wrap64 P.1) ∧ i = .int .i64 j ∧ j ≤ ln ∧ Hid (P = (vl.take j).foldl Fw (a, S)) ∧ Hid (SpBox wr R n P.2) ∧ Hid (Kept R R W wr)) (fun _ i _ => ln - (intOf i).toNat)
  case atStart => exact ⟨0, (a, S), rfl, rfl, Nat.zero_le _, Lib.hid (by rw [List.take_zero]; rfl), Lib.hid HW.out.2.1, Lib.hid (Kept.refl _ _ _)⟩
  case round =>
    obtain ⟨j, P, rfl, rfl, hj, hP, hSr, hK⟩ := hrel
    have c258r : wr.cell? ⟨w.heap.size, 258, none⟩ = some (.slice (some ⟨cb, coff, none⟩) 1 ccap) := c258 ⟨wr, hK.out⟩
    have v2r : wr.cell? ⟨w.heap.size + 1, 2, none⟩ = some (.slice va ln vcap) := v2f ⟨wr, hK.out⟩
    by_cases hjl : j < ln
    · have hd : decide ((j : Int) < ln) = true := by simp; omega
      have hjL : j < vl.length := by have := HLn.out; omega
      obtain ⟨vb, voff, rfl, hvcap, hvb, hvr⟩ := Hvl.out.resolve_left (by omega)
      obtain ⟨ds0, hd0, hdat0⟩ := vals_get Wc vb vl voff hvr j hjL
      have HD := Lib.hid (fun (w' : World) (h : Kept R R Wc w') => v3_kept hd0 hvb h (by have := HR.out; omega))
      have hcall := HQ.out vl[j] (List.getElem_mem hjL) ds0 hdat0
      have htk : (vl.take (j + 1)).foldl Fw (a, S) = cap x vl[j] (P.1, unsetG (fun t => hasG t x) P.2) := by
        rw [List.take_succ_eq_append_getElem hjL, List.foldl_append, ← hP.out, HF.out]; rfl
      have Hcall := Lib.hid (fun (w' : World) => hcall w' P)
      generalize vl[j] = u at Hcall htk
      have Htk := Lib.hid htk
      have hvcapI : (ln : Int) ≤ vcap := by omega
      clear hd0 hdat0 hcall htk hvr hvb hvcap hjL
      go_upto_region 13 with (first
        | (refine K.wpList_load_refcore rfl _ rfl cb (coff + 0 * 259) es0 rfl (HE0.out _ (HW.out.1.trans hK.out)) ?_)
        | (go_at_call 61; refine (HU.out _ _ (HW.out.1.trans hK.out) hSr.out).mono ?_; rintro e w2 ⟨rfl, hS2, hk2⟩; have H2 := Lib.hid (And.intro hS2 (hK.out.trans hk2)); clear hS2 hk2)
        | fail)
      obtain ⟨wd, hwd⟩ : ∃ wd, wd = w2.drew := ⟨_, rfl⟩
      have hBd : Below w2.heap.size w2 wd := by rw [hwd]; exact (Below.refl _ _).drew
      have hKd : Kept R R W wd := H2.out.2.trans (Kept.of_below hBd)
      have hSd := (H2.out.1).later hBd
      refine wp_region_hold (Kept R R W) (.plain 0 (.plain 1 (.plain 2 (.plain 3 (.plain 4 (.plain 5 (.plain 6 (.plain 7 (.plain 8 (.plain 9 (.plain 10 (.sole 11 (.plain 12 .done))))))))))))) (by rw [← hwd]; exact hKd) (by kernel_rfl) (by kernel_rfl) (fun c a d v w h => by cases d <;> exact h) ?_
      rw [← hwd]
      clear hwd
      repeat (first
          | (refine' hold_skip ?_ ?_ ?_
             rotate_left 1
             · simp only [List.getElem?_toArray, List.getElem?_cons_zero, List.getElem?_cons_succ]; exact rfl
             · exact rfl
             simp only [Act.put, List.setIfInBounds_toArray, List.set_cons_zero, List.set_cons_succ])
          | (refine' hold_want ?_ ?_ (fun J hJ => ?_)
             rotate_left 1
             · simp only [List.getElem?_toArray, List.getElem?_cons_zero, List.getElem?_cons_succ]; exact rfl
             · exact rfl
             first
             | (refine quiet_load_rc _ rfl cb (coff + 0) es0 rfl (fun w' ⟨L, hL⟩ => hL ▸ HE0.out _ (HW.out.1.trans L.ok)) ?_; refine hJ _ ?_; clear hJ J; try simp only [Act.put, List.setIfInBounds_toArray, List.set_cons_zero, List.set_cons_succ])
             | (refine quiet_load_refval _ rfl vb (voff + j * 3) ds0 rfl (fun w' ⟨L, hL⟩ => hL ▸ HD.out _ (HW.out.1.trans L.ok)) ?_; refine hJ _ ?_; clear hJ J; try simp only [Act.put, List.setIfInBounds_toArray, List.set_cons_zero, List.set_cons_succ])
             | (refine quiet_extract _ _ rfl _ _ rfl rfl ?_; refine hJ _ ?_; clear hJ J; try simp only [Act.put, List.setIfInBounds_toArray, List.set_cons_zero, List.set_cons_succ])
             | (go_big_quiet_op; refine hJ _ ?_; clear hJ J; try simp only [Act.put, List.setIfInBounds_toArray, List.set_cons_zero, List.set_cons_succ])))
      refine' hold_sole ?_ ?_ (fun J hJ => ?_)
      rotate_left 1
      · simp only [List.getElem?_toArray, List.getElem?_cons_zero, List.getElem?_cons_succ]; exact rfl
      · exact rfl
      go_simp
      refine (Hcall.out _ (HW.out.1.trans hKd) hSd).mono ?_
      rintro e w20 ⟨rfl, hS20, hk20⟩
      have hK20 : Kept R R W w20 := hKd.trans hk20
      refine hJ _ _ hK20 ?_
      clear hJ J hk20
      try simp only [Act.put, List.setIfInBounds_toArray, List.set_cons_zero, List.set_cons_succ]
      repeat (first
          | (refine' hold_skip ?_ ?_ ?_
             rotate_left 1
             · simp only [List.getElem?_toArray, List.getElem?_cons_zero, List.getElem?_cons_succ]; exact rfl
             · exact rfl
             simp only [Act.put, List.setIfInBounds_toArray, List.set_cons_zero, List.set_cons_succ])
          | (refine' hold_want ?_ ?_ (fun J hJ => ?_)
             rotate_left 1
             · simp only [List.getElem?_toArray, List.getElem?_cons_zero, List.getElem?_cons_succ]; exact rfl
             · exact rfl
             first
             | (refine quiet_load_rc _ rfl cb (coff + 0) es0 rfl (fun w' ⟨L, hL⟩ => hL ▸ HE0.out _ (HW.out.1.trans L.ok)) ?_; refine hJ _ ?_; clear hJ J; try simp only [Act.put, List.setIfInBounds_toArray, List.set_cons_zero, List.set_cons_succ])
             | (refine quiet_load_refval _ rfl vb (voff + j * 3) ds0 rfl (fun w' ⟨L, hL⟩ => hL ▸ HD.out _ (HW.out.1.trans L.ok)) ?_; refine hJ _ ?_; clear hJ J; try simp only [Act.put, List.setIfInBounds_toArray, List.set_cons_zero, List.set_cons_succ])
             | (refine quiet_extract _ _ rfl _ _ rfl rfl ?_; refine hJ _ ?_; clear hJ J; try simp only [Act.put, List.setIfInBounds_toArray, List.set_cons_zero, List.set_cons_succ])
             | (go_big_quiet_op; refine hJ _ ?_; clear hJ J; try simp only [Act.put, List.setIfInBounds_toArray, List.set_cons_zero, List.set_cons_succ])))
      refine hold_done ?_
      have HE := Lib.hid (And.intro hS20 hK20)
      go_wp2_with fail
      go_roundw
      case rel => exact ⟨j + 1, _, rfl, by go_num, by omega, Lib.hid Htk.out.symm, Lib.hid HE.out.1, Lib.hid HE.out.2⟩
      case measure => simp [intOf]; omega

    · have hd : decide ((j : Int) < ln) = false := by simp; omega
      obtain rfl : j = ln := by omega
      have hPe : P = vl.foldl Fw (a, S) := by rw [hP.out, HLn.out, List.take_length]
      have HPe := Lib.hid hPe
      clear hPe
      go_wp2_with fail
      go_ret
      rw [← HPe.out]
      exact ⟨rfl, hSr.out, (Kept.of_below HW.out.2.2.1).trans hK.out⟩

end V
end Go.Proofs.YtonhmjfopidacaaDoor
namespace Go.Proofs.YtonhmjfopidacaaDoor
namespace V
set_option maxRecDepth 100000
open Go.RowKit
theorem sp_all : ∀ (m : Nat) (c : K.Cr), c.count ≤ m → c.count ≤ 1000000 → c.form = true → SpOk c
  | 0, c, h, _, _ => absurd (K.Cr.count_pos c) (by omega)
  | m + 1, .mk k st n l, hm, hc, hf => by
    rw [K.count_mk] at hm hc
    obtain ⟨hfl, hn0, hn32, hk⟩ := form_kinds hf
    have hcl : ∀ y ∈ l, y.count ≤ 1000000 := fun y hy => by have := K.counts_mem hy; omega
    have ih : ∀ y ∈ l, SpOk y := fun y hy => sp_all m y (by have := K.counts_mem hy; omega) (hcl y hy) (hfl y hy)
    rcases hk with ⟨hk, rfl⟩ | ⟨rfl, rfl⟩ | ⟨hk, x, y, rfl⟩ | ⟨hk, x, rfl⟩
    · rcases hk with rfl | rfl
      · intro v cs ds Wc w R n a S hbel
        rw [bel_zero] at hbel
        cases hbel
      · exact sp_one
    · exact sp_two
    · rcases hk with rfl | rfl
      · exact sp_cat (ih x (by simp)) (ih y (by simp))
      · exact sp_alt (ih x (by simp)) (ih y (by simp))
    · rcases hk with rfl | rfl | rfl
      · exact sp_star (hfl x (by simp)) (hcl x (by simp)) (ih x (by simp))
      · obtain ⟨t, rfl⟩ : ∃ t : Nat, n = (t : Int) := ⟨n.toNat, by omega⟩
        exact sp_group (ih x (by simp))
      · exact sp_anew (hfl x (by simp)) (hcl x (by simp)) (ih x (by simp))
theorem info_rspan : (Tryd.prog.info? 99).map (fun i => (i.zero, i.size, i.bytes)) = some (some (.agg #[.int .i64 0, .int .i64 0]), 2, 16) := by kernel_rfl
theorem wpList_make_rspans {ops : Array Oper} {rest : List Oper} {o : Oper} {a : Act} {w : World} {Q : Exit → Act → World → Prop} (hgd : o.guard = none) (x y : Operand) (ho : o.op = .makeSlice 50 x y) (n : Nat)
    (hx : a.eval x = .int .i64 ((n : Int) + 1)) (hy : a.eval y = .int .i64 ((n : Int) + 1)) (hn : n ≤ 32)
    (h : ∀ w', SpBox w' w.heap.size n (fun _ => some (0, 0)) → Below w.heap.size w w' → wpList Tryd.prog ops Q rest (a.put o.dst (.slice (some ⟨w.heap.size, 0, none⟩) (n + 1) (n + 1))) w') : wpList Tryd.prog ops Q (o :: rest) a w := by
  obtain ⟨i0, hi, hz0, hz1, hz2⟩ := info_parts info_rspan
  have hr := run_makeSlice (P := Tryd.prog) w 50 99 i0 (.agg #[.int .i64 0, .int .i64 0]) Tryd.underlying50 hi hz0 .i64 .i64 ((n : Int) + 1) ((n : Int) + 1) (by omega) (by omega) (by rw [hz1]; omega) (by rw [hz2]; omega) (by omega)
  have ht : ((n : Int) + 1).toNat = n + 1 := by omega
  rw [ht, hz1] at hr
  refine wpList_plain hgd fun _ hK => ?_
  unfold Oper.wp execOp
  simp only [ho, hx, hy, Sem.run_bind, Sem.run_pure, Result.andThen_ok, hr]
  refine hK _ _ (h _ ⟨List.replicate ((n + 1) * 2) (.int .i64 0), ?_, by simp, fun t h1 h2 => ?_⟩ (K.alloc_below _ _))
  · rw [World.alloc_heap_new]
    have hall : ∀ m : Fin 33, madeCells (Value.agg #[.int .i64 0, .int .i64 0]).cells ((m.1 + 1) * 2) = (List.replicate ((m.1 + 1) * 2) (Value.int .i64 0)).toArray := by
      intro m
      apply Array.ext
      · simp [madeCells]
      · intro i h1 h2
        have h2 : i % 2 = 0 ∨ i % 2 = 1 := by omega
        rcases h2 with h2 | h2 <;> simp [madeCells, Value.cells, h2]
    rw [hall ⟨n, by omega⟩]
  · have e : spW (some (0, 0)) = (0, 0) := by simp [spW, spOf, wrap64]
    rw [List.getElem?_replicate, List.getElem?_replicate, if_pos (by omega), if_pos (by omega)]
    show _ = some (Value.int .i64 (spW (some (0, 0))).1) ∧ _ = some (Value.int .i64 (spW (some (0, 0))).2)
    rw [e]
    exact ⟨rfl, rfl⟩
theorem refSpans_pre {c : K.Cr} {v : Vl} {cs ds : List Value} {w W : World} (hat : K.Cr.ref w c cs) (hva : Vl.at w v ds) (hW : W = (w.alloc (.cells cs.toArray 57)).alloc (.cells ds.toArray 61)) :
    Below w.heap.size w W ∧ K.RefC W w.heap.size 0 cs ∧ Val3 W (w.heap.size + 1) 0 ds ∧ w.heap.size + 1 < W.heap.size := by
  have hbel : Below w.heap.size w W := by rw [hW]; exact ((Below.refl _ _).alloc (Nat.le_refl _) _).alloc (by simp) _
  have hvb : Val3 W (w.heap.size + 1) 0 ds := by
    rw [hW]
    have h := rbox_start (w.alloc (.cells cs.toArray 57)) ds.toArray
    rw [World.size_alloc] at h
    exact rval3_in h (at_len hva)
  exact ⟨hbel, K.refc_box (K.refc_len hat) W (by rw [hW]; exact (K.alloc_below _ _).mono (by simp)), hvb, hvb.lt⟩
set_option maxHeartbeats 8000000 in
theorem refSpans_bad {c : K.Cr} {v : Vl} {cs ds : List Value} {w : World} (hat : K.Cr.ref w c cs) (hva : Vl.at w v ds) (at_ n : Int) (h : goodV c v = false ∨ at_ < 0 ∨ 1073741824 < at_ ∨ n < 0 ∨ 32 < n) :
    Calls Tryd.prog 26 #[.agg cs.toArray, .agg ds.toArray, .int .i64 at_, .int .i64 n] w (SpPost w [] 1) := by
  obtain ⟨W, hW⟩ : ∃ W, W = (w.alloc (.cells cs.toArray 57)).alloc (.cells ds.toArray 61) := ⟨_, rfl⟩
  obtain ⟨hbel, hbx, hvb, hlw⟩ := refSpans_pre hat hva hW
  have hgd := refGoodValue_any c v cs ds W (K.Cr.ref_below hbel hat) (Vl.at_below hbel (Nat.le_refl _) _ _ hva)
  have Hbx := Lib.hid hbx
  have Hvb := Lib.hid hvb
  have Hbel := Lib.hid hbel
  have h1 : goodV c v = false ∨ goodV c v = true ∧ at_ < 0 ∨ goodV c v = true ∧ ¬ at_ < 0 ∧ 1073741824 < at_ ∨ goodV c v = true ∧ ¬ at_ < 0 ∧ ¬ 1073741824 < at_ ∧ n < 0 ∨ goodV c v = true ∧ ¬ at_ < 0 ∧ ¬ 1073741824 < at_ ∧ ¬ n < 0 ∧ 32 < n := by
    cases hg : goodV c v with
    | false => exact .inl rfl
    | true => rw [hg] at h; simp at h ⊢; omega
  obtain ⟨k2, z2, a2, len2, cap2, rfl⟩ := at_lit hva
  clear h hat hva hbel hbx hvb hlw
  generalize goodV c v = g at *
  have Hg := Lib.hid hgd
  clear hgd
  rcases h1 with rfl | ⟨rfl, h1⟩ | ⟨rfl, h1, h2⟩ | ⟨rfl, h1, h2, h3⟩ | ⟨rfl, h1, h2, h3, h4⟩
  all_goals
    try have d1 : decide (at_ < 0) = true := decide_eq_true h1
    try have d1 : decide (at_ < 0) = false := decide_eq_false h1
    try have d2 : decide (1073741824 < at_) = true := decide_eq_true h2
    try have d2 : decide (1073741824 < at_) = false := decide_eq_false h2
    try have d3 : decide (n < 0) = true := decide_eq_true h3
    try have d3 : decide (n < 0) = false := decide_eq_false h3
    try have d4 : decide (32 < n) = true := decide_eq_true h4
    try clear h1
    try clear h2
    try clear h3
    try clear h4
    go_enter Tryd.func26, Tryd.ntmps26
    go_upto_region 1 with (first
      | (refine Go.Great.wpList_boxTo rfl _ _ rfl _ rfl w.heap.size rfl cs.toArray rfl ?_)
      | fail)
    rw [← hW]
    clear hW
    go_wp2_with (first
      | (refine K.wpList_load_refcore rfl _ rfl w.heap.size 0 cs rfl Hbx.out ?_)
      | (refine wpList_load_refval rfl _ rfl (w.heap.size + 1) 0 _ rfl Hvb.out ?_)
      | (go_at_call 44; refine Hg.out.mono ?_; rintro e w1 ⟨rfl, hb1⟩; have Hb1 := Lib.hid hb1; clear hb1)
      | go_big_skip
      | fail)
    refine bodyPost_ret (v := .tuple #[.slice none 0 0, .int .i64 1]) (by simp [results, Tryd.results26, go_sem]) rfl ⟨none, 0, rfl, ⟨by decide, .inl rfl⟩, Hbel.out.trans (Hb1.out.mono Hbel.out.size)⟩
theorem SpAt.of_box {w : World} {R n : Nat} {S : Gs} {at_ : Int} {P : Wk} (h : SpBox w R n S) (h0 : w.cell? ⟨R, 0, none⟩ = some (.int .i64 (wrap64 at_))) (h1 : w.cell? ⟨R, 1, none⟩ = some (.int .i64 (wrap64 P.1))) (hn : n ≤ 1000) (hS : ∀ t, 1 ≤ t → spW (S t) = spW (P.2 t)) : SpAt w (some ⟨R, 0, none⟩) (n + 1) (spansL at_ P n) := by
  have hlt := h.lt
  obtain ⟨cs, hb, hl, hc⟩ := h
  refine ⟨by rw [spansL_len]; unfold maxLen; omega, .inr ⟨R, 0, rfl, by rw [spansL_len]; omega, hlt, fun j hj => ?_⟩⟩
  rw [spansL_get]
  rw [spansL_len] at hj
  by_cases e : j = 0
  · subst e
    rw [if_pos rfl]
    exact ⟨h0, h1⟩
  · rw [if_neg e]
    have h2 := hc j (by omega) (by omega)
    rw [hS j (by omega)] at h2
    rw [Nat.zero_add, cells_at hb, cells_at hb, List.getElem?_toArray, List.getElem?_toArray]
    exact h2
set_option maxHeartbeats 8000000 in
theorem refSpans_ok {c : K.Cr} {v : Vl} {cs ds : List Value} {w : World} (hat : K.Cr.ref w c cs) (hva : Vl.at w v ds) (at_ : Int) (n : Nat) (h : 0 ≤ at_ ∧ at_ ≤ 1073741824 ∧ n ≤ 32) (hg : goodV c v = true) :
    Calls Tryd.prog 26 #[.agg cs.toArray, .agg ds.toArray, .int .i64 at_, .int .i64 (n : Int)] w (SpPost w (spansL at_ (cap c v (at_, none32)) n) 0) := by
  obtain ⟨W, hW⟩ : ∃ W, W = (w.alloc (.cells cs.toArray 57)).alloc (.cells ds.toArray 61) := ⟨_, rfl⟩
  obtain ⟨hbel, hbx, hvb, hlw⟩ := refSpans_pre hat hva hW
  have hgd := refGoodValue_any c v cs ds W (K.Cr.ref_below hbel hat) (Vl.at_below hbel (Nat.le_refl _) _ _ hva)
  rw [hg] at hgd
  have hgc : c.count ≤ 1000000 ∧ c.form = true ∧ bel c v = true := by
    unfold goodV K.goodC at hg
    simp only [Bool.and_eq_true, decide_eq_true_eq] at hg
    exact ⟨by omega, hg.1.2, hg.2⟩
  have hsp := sp_all _ c (Nat.le_refl _) hgc.1 hgc.2.1
  have Hsp := Lib.hid (fun (w' : World) (R : Nat) (S : Gs) (h1 : w.heap.size ≤ R) (hn : n ≤ 32) (hk : Kept R R w w') (hS : SpBox w' R n S) => hsp v cs ds w w' R n at_ S hgc.2.2 hat hva h1 hn hk hS)
  have hwa : wrap64 at_ = at_ := by unfold wrap64; omega
  rw [hwa] at Hsp
  have Hwa := Lib.hid hwa
  have Hbx := Lib.hid (fun (R : Nat) (w' : World) (hk : Kept R R W w') (hR : W.heap.size ≤ R) => refc_kept hbx (by omega) hk (by omega))
  have Hvb := Lib.hid (fun (R : Nat) (w' : World) (hk : Kept R R W w') (hR : W.heap.size ≤ R) => v3_kept hvb hlw hk (by omega))
  have Hbel := Lib.hid (And.intro hbel hlw)
  have hb0 : K.RefC W w.heap.size 0 cs := hbx
  have hv0 : Val3 W (w.heap.size + 1) 0 ds := hvb
  obtain ⟨k2, z2, a2, len2, cap2, rfl⟩ := at_lit hva
  obtain ⟨h1, h2, h3⟩ := h
  have d1 : decide (at_ < 0) = false := decide_eq_false (by omega)
  have d2 : decide (1073741824 < at_) = false := decide_eq_false (by omega)
  have d3 : decide ((n : Int) < 0) = false := decide_eq_false (by omega)
  have d4 : decide ((32 : Int) < n) = false := decide_eq_false (by omega)
  have d5 : decide (32 < n) = false := decide_eq_false (by omega)
  have hnI : ((n : Int) + 1) ≤ 9223372036854775807 := by omega
  have Hn := Lib.hid h3
  have Hg := Lib.hid hgd
  have H0 := Lib.hid (And.intro hb0 hv0)
  clear h1 h2 h3 hat hva hbel hbx hvb hlw hgd hgc hsp hwa hg hb0 hv0
  generalize cap c v = F at *
  go_enter Tryd.func26, Tryd.ntmps26
  go_upto_region 1 with (first
    | (refine Go.Great.wpList_boxTo rfl _ _ rfl _ rfl w.heap.size rfl cs.toArray rfl ?_)
    | fail)
  rw [← hW]
  clear hW
  go_upto_region 3 with (first
    | (refine K.wpList_load_refcore rfl _ rfl w.heap.size 0 cs rfl H0.out.1 ?_)
    | (refine wpList_load_refval rfl _ rfl (w.heap.size + 1) 0 _ rfl H0.out.2 ?_)
    | (go_at_call 44; refine Hg.out.mono ?_; rintro e w1 ⟨rfl, hb1⟩; have Hb1 := Lib.hid hb1; clear hb1)
    | fail)
  go_wp2_with (first
    | (refine wpList_make_rspans rfl _ _ rfl n rfl rfl Hn.out ?_; intro w2 hS2 hb2; have H2 := Lib.hid (And.intro hS2 hb2); clear hS2 hb2)
    | fail)
  have Hr1 := Lib.hid Hb1.out.size
  go_loopw [11] (fun i wr => ∃ j : Nat, i = .int .i64 j ∧ j ≤ n + 1 ∧ Hid (SpBox wr w1.heap.size n (fun t => if t < j then none else some (0, 0))) ∧ Hid (Kept w1.heap.size w1.heap.size w2 wr)) (fun i _ => n + 1 - (intOf i).toNat)
  case atStart => exact ⟨0, rfl, Nat.zero_le _, Lib.hid (H2.out.1.ext fun t _ _ => by simp), Lib.hid (Kept.refl _ _ _)⟩
  case round =>
    obtain ⟨j, rfl, hj, hS, hK⟩ := hrel
    by_cases hjn : j ≤ n
    · have e1 : decide ((j : Int) ≤ n) = true := by simp; omega
      have e2 : decide (j ≤ n) = true := decide_eq_true hjn
      have e3 : decide ((n : Int) < j) = false := by simp; omega
      have hji : (j : Int) < (n : Int) + 1 := by omega
      have Hjn := Lib.hid hjn
      clear hjn
      go_wp2_with (first
        | (refine wpList_store_rspan rfl _ _ rfl w1.heap.size n j _ (-1) (-1) rfl rfl hS.out Hjn.out none rfl ?_; intro w4 hS4 _ ho4; have H4 := Lib.hid (And.intro hS4 ho4); clear hS4 ho4)
        | fail)
      go_roundw
      case rel => exact ⟨j + 1, by go_num, by have := Hjn.out; omega, Lib.hid (H4.out.1.ext fun t _ _ => by
        by_cases e : t = j
        · rw [if_pos e, if_pos (by omega)]
        · rw [if_neg e]
          by_cases e2 : t < j
          · rw [if_pos e2, if_pos (by omega)]
          · rw [if_neg e2, if_neg (by omega)]), Lib.hid (hK.out.trans (Kept.of_only H4.out.2))⟩
      case measure => have := Hjn.out; simp [intOf]; omega
    · have e1 : decide ((j : Int) ≤ n) = false := by simp; omega
      have e2 : decide (j ≤ n) = false := decide_eq_false hjn
      have e3 : decide ((n : Int) < j) = true := by simp; omega
      have hS0 : SpBox wr w1.heap.size n none32 := hS.out.ext fun t _ ht => if_pos (by omega)
      have hbw1 : Below w.heap.size w w1 := Hbel.out.1.trans (Hb1.out.mono Hbel.out.1.size)
      have hkr : Kept w1.heap.size w1.heap.size w1 wr := (Kept.of_below H2.out.2).trans hK.out
      have hkw : Kept w1.heap.size w1.heap.size w wr := (Kept.of_below hbw1).trans hkr
      have hbr := Hbx.out w1.heap.size wr ((Kept.of_below Hb1.out).trans hkr) Hr1.out
      have hvr := Hvb.out w1.heap.size wr ((Kept.of_below Hb1.out).trans hkr) Hr1.out
      have hcall := Hsp.out wr w1.heap.size none32 hbw1.size Hn.out hkw hS0
      obtain ⟨P, hP⟩ : ∃ P, P = F (at_, none32) := ⟨_, rfl⟩
      rw [← hP] at hcall
      have HP := Lib.hid hP
      clear hP
      have Hc := Lib.hid hcall
      have Hx := Lib.hid (And.intro hbr hvr)
      have Hk := Lib.hid (And.intro hkw hbw1)
      clear hcall hbr hvr hkw hkr hS0 hbw1 hjn
      go_wp2_with (first
        | (refine K.wpList_load_refcore rfl _ rfl w.heap.size 0 cs rfl Hx.out.1 ?_)
        | (refine wpList_load_refval rfl _ rfl (w.heap.size + 1) 0 _ rfl Hx.out.2 ?_)
        | (go_at_call 45; refine Hc.out.mono ?_; rintro e w5 ⟨rfl, hS5, hk5⟩; have H5 := Lib.hid (And.intro hS5 hk5); clear hS5 hk5)
        | (refine wpList_store_rspan rfl _ _ rfl w1.heap.size n 0 _ at_ (wrap64 P.1) rfl rfl H5.out.1 (Nat.zero_le _) (some (at_, P.1)) (by show (wrap64 at_, wrap64 P.1) = _; rw [Hwa.out]) ?_; intro w6 hS6 hc6 ho6; have H6 := Lib.hid (And.intro hS6 (And.intro hc6 ho6)); clear hS6 hc6 ho6)
        | fail)
      have hsa := SpAt.of_box H6.out.1 (at_ := at_) (P := P) (by rw [H6.out.2.1 0 trivial, if_pos rfl, Hwa.out]) (by rw [H6.out.2.1 1 trivial]; rfl) (by have := Hn.out; omega) (fun t ht => by show spW (if t = 0 then _ else _) = _; rw [if_neg (by omega)])
      have hkf := (Hk.out.1.trans H5.out.2).trans (Kept.of_only H6.out.2.2)
      have hbf : Below w.heap.size w w6 := ⟨hkf.os, hkf.tape, hkf.output, hkf.size, fun k hk => hkf.block k hk (by have := Hk.out.2.size; omega) (by have := Hk.out.2.size; omega)⟩
      rw [← HP.out]
      refine bodyPost_ret (v := .tuple #[.slice (some ⟨w1.heap.size, 0, none⟩) (n + 1) (n + 1), .int .i64 0]) (by simp [results, Tryd.results26, go_sem]) rfl ⟨_, n + 1, by rw [spansL_len], hsa, hbf⟩
theorem refSpans_any {c : K.Cr} {v : Vl} {cs ds : List Value} {w : World} (hat : K.Cr.ref w c cs) (hva : Vl.at w v ds) (at_ n : Int) :
    Calls Tryd.prog 26 #[.agg cs.toArray, .agg ds.toArray, .int .i64 at_, .int .i64 n] w (SpPost w (ofSp c v at_ n) (ofErr c v at_ n)) := by
  unfold ofSp ofErr okOf
  by_cases h : 0 ≤ at_ ∧ at_ ≤ 1073741824 ∧ 0 ≤ n ∧ n ≤ 32
  · rw [decide_eq_true h, Bool.true_and]
    cases hg : goodV c v with
    | false => exact refSpans_bad hat hva at_ n (.inl hg)
    | true =>
      have hn : n = ((n.toNat : Nat) : Int) := by omega
      have := refSpans_ok hat hva at_ n.toNat ⟨h.1, h.2.1, by omega⟩ hg
      rw [← hn] at this
      exact this
  · rw [decide_eq_false h, Bool.false_and]
    exact refSpans_bad hat hva at_ n (by omega)
end V
end Go.Proofs.YtonhmjfopidacaaDoor
namespace Go.Proofs.YtonhmjfopidacaaDoor
namespace V
set_option maxRecDepth 100000
open Go.RowKit
theorem loadRSpan {w : World} {b off : Nat} {f t : Int} (h : w.cell? ⟨b, off, none⟩ = some (.int .i64 f) ∧ w.cell? ⟨b, off + 1, none⟩ = some (.int .i64 t)) : (loadVar 99 ⟨b, off, none⟩).run Tryd.prog w = .ok (.agg #[.int .i64 f, .int .i64 t]) w := by
  have hl := run_loadCells_list (P := Tryd.prog) w ⟨b, off, none⟩ [.int .i64 f, .int .i64 t] (fun j v hv => by
    rw [addr_at]
    match j, hv with
    | 0, hv => rw [← hv]; exact h.1
    | 1, hv => rw [← hv]; exact h.2)
  have hi := infoRSpan
  cases hq : Tryd.prog.info? 99 with
  | none => simp [hq] at hi
  | some i =>
    have hs : i.size = 2 := by simpa [hq] using hi
    have hagg : (isAgg 99).run Tryd.prog w = .ok true w := by
      unfold isAgg
      rw [Sem.run_bind, run_underlying Tryd.underlying99 w]
      rfl
    have hl2 : (loadCells ⟨b, off, none⟩ 2).run Tryd.prog w = _ := hl
    simp [loadVar, Sem.run_bind, hagg, sizeOf, typeInfo, hq, hs, hl2]
theorem quiet_load_rspan {o : Oper} {a : Act} {C : World → Prop} {K : Act → Prop} (x : Operand) (ho : o.op = .load 99 x) (b off : Nat) (f t : Int) (hx : a.eval x = .pointer (some ⟨b, off, none⟩))
    (h : ∀ w, C w → w.cell? ⟨b, off, none⟩ = some (.int .i64 f) ∧ w.cell? ⟨b, off + 1, none⟩ = some (.int .i64 t)) (hK : K (a.put o.dst (.agg #[.int .i64 f, .int .i64 t]))) : o.quiet Tryd.prog a C K :=
  ⟨.agg #[.int .i64 f, .int .i64 t], fun w hw => by
    unfold Oper.quietAt execOp
    simp only [ho, hx, Instr.loadAt, Instr.sureAddr, Sem.run_bind, Sem.run_pure, Result.andThen_ok, loadRSpan (h w hw)]
    exact ⟨rfl, rfl⟩, hK⟩
set_option maxHeartbeats 4000000 in
theorem same_rows {l : Sl} {a1 a2 : Option Addr} {c1 c2 : Nat} {w : World} (h1 : SpAt w a1 c1 l) (h2 : SpAt w a2 c2 l) (hl : l.length ≤ 1000000) :
    Calls Tryd.prog 29 #[.slice a1 l.length c1, .slice a2 l.length c2] w fun e w' => e = .returned (.bool true) ∧ Below w.heap.size w w' := by
  obtain ⟨n, hn⟩ : ∃ n, n = l.length := ⟨_, rfl⟩
  rw [← hn]
  have hnI : (n : Int) ≤ 9223372036854775807 := by omega
  have H := Lib.hid (And.intro h1 h2)
  have HN := Lib.hid hn
  clear h1 h2 hl hn
  go_enter Tryd.func29, Tryd.ntmps29
  go_wp2_with fail
  go_loopw [5] (fun i wr => ∃ j : Nat, i = .int .i64 j ∧ j ≤ n ∧ Hid (Below w.heap.size w wr)) (fun i _ => n - (intOf i).toNat)
  case atStart => exact ⟨0, rfl, Nat.zero_le _, Lib.hid (Below.refl _ _)⟩
  case round =>
    obtain ⟨j, rfl, hj, hB⟩ := hrel
    by_cases hjn : j < n
    · have hd : decide ((j : Int) < n) = true := by simp; omega
      have hjl : j < l.length := by have := HN.out; omega
      obtain ⟨b1, o1, rfl, hc1, hb1, hl1⟩ := H.out.1.2.resolve_left (by omega)
      obtain ⟨b2, o2, rfl, hc2, hb2, hl2⟩ := H.out.2.2.resolve_left (by omega)
      have e1 := hl1 j hjl
      have e2 := hl2 j hjl
      generalize l[j] = q at e1 e2
      obtain ⟨f, t⟩ := q
      have hk : ∀ (b off : Nat) (v : Value), b < w.heap.size → w.cell? ⟨b, off, none⟩ = some v → ∀ w', Below wr.heap.size wr w' → w'.cell? ⟨b, off, none⟩ = some v := fun b off v hb hc w' hw' => by
        rw [hw'.cell (p := ⟨b, off, none⟩) (Nat.lt_of_lt_of_le hb hB.out.size), hB.out.cell (p := ⟨b, off, none⟩) hb]; exact hc
      have K1 := Lib.hid (fun (w' : World) (hw' : Below wr.heap.size wr w') => And.intro (hk b1 (o1 + j * 2) _ hb1 e1.1 w' hw') (hk b1 (o1 + j * 2 + 1) _ hb1 e1.2 w' hw'))
      have K2 := Lib.hid (fun (w' : World) (hw' : Below wr.heap.size wr w') => And.intro (hk b2 (o2 + j * 2) _ hb2 e2.1 w' hw') (hk b2 (o2 + j * 2 + 1) _ hb2 e2.2 w' hw'))
      have hcI1 : (n : Int) ≤ c1 := by have := HN.out; omega
      have hcI2 : (n : Int) ≤ c2 := by have := HN.out; omega
      clear hl1 hl2 e1 e2 hk hc1 hc2 hjl
      go_upto_region 6 with fail
      have hne : Nonempty (Later wr) := Later.nonempty wr
      refine wp_region_later (Below.refl _ _) (by kernel_rfl) (by kernel_rfl) ?_
      repeat (first
        | go_big_quiet_step (fail)
        | (go_big_quiet_want; refine quiet_load_rspan _ rfl b1 (o1 + j * 2) f t rfl (fun w' ⟨L, hL⟩ => K1.out w' (hL ▸ L.ok)) ?_; go_big_quiet_on; simp only [Act.put, List.setIfInBounds_toArray, List.set_cons_zero, List.set_cons_succ])
        | (go_big_quiet_want; refine quiet_load_rspan _ rfl b2 (o2 + j * 2) f t rfl (fun w' ⟨L, hL⟩ => K2.out w' (hL ▸ L.ok)) ?_; go_big_quiet_on; simp only [Act.put, List.setIfInBounds_toArray, List.set_cons_zero, List.set_cons_succ]))
      refine wpQuiet_nil ?_
      intro w' hw'
      obtain ⟨L', rfl⟩ := hw'
      have HL := Lib.hid L'.ok
      go_wp2_with fail
      go_roundw
      case rel => exact ⟨j + 1, by go_num, by omega, Lib.hid (hB.out.trans (HL.out.mono hB.out.size))⟩
      case measure => simp [intOf]; omega
    · have hd : decide ((j : Int) < n) = false := by simp; omega
      go_wp2_with fail
      go_ret
      exact ⟨rfl, hB.out⟩
theorem wp_append_rspan {o : Oper} {a : Act} {w : World} {K : Act → World → Prop} {Q : Exit → Act → World → Prop} (s x : Operand)
    (ho : o.op = .call { callee := .builtin .append, args := #[s, x], argTypes := #[50, 50] }) (base : Nat) (v : Value) (n : Nat) (xs : List Value) (hs : a.eval s = v)
    (hown : w.ownsRow base 99 2 v n xs) (b : Nat) (f t : Int) (hx : a.eval x = .slice (some ⟨b, 0, none⟩) 1 1) (c0 : w.cell? ⟨b, 0, none⟩ = some (.int .i64 f)) (c1 : w.cell? ⟨b, 1, none⟩ = some (.int .i64 t)) (hn : n < 1000000000) (hbase : base ≤ w.heap.size)
    (h : ∀ v' w', w'.ownsRow base 99 2 v' (n + 1) (xs ++ [.int .i64 f, .int .i64 t]) → w.grownBy w' v.ownBlock → K (a.put o.dst v') w') : o.wp Tryd.prog a w K Q := by
  obtain ⟨i0, hi, hz0, hz1, hz2⟩ := info_parts info_rspan
  refine wp_append_own w s x _ ho base 99 i0 (.agg #[.int .i64 0, .int .i64 0]) 2 16 Tryd.underlying50 hi hz0 hz1 hz2 rfl (by decide) v n xs hs hown ⟨b, 0, none⟩ 1 1 [.int .i64 f, .int .i64 t] hx rfl ?_ (by simp [Value.oneCell']) (by unfold maxLen; omega) (by omega) hbase ?_
  · intro j u hj
    rw [addr_at]
    match j, hj with
    | 0, hj => rw [← hj]; exact c0
    | 1, hj => rw [← hj]; exact c1
  · intro v' w' g1 g2 _
    exact h v' w' g1 g2
theorem spr_of_owns {w : World} {base : Nat} {v : Value} {l : Sl} (h : w.ownsRow base 99 2 v l.length (spCells l)) : ∃ a cap, v = .slice a l.length cap ∧ SpAt w a cap l := by
  rcases h.2 with ⟨rfl, h1⟩ | ⟨g, cap, cur, rfl, hb, hg, hc, hm, hs, htake⟩
  · exact ⟨none, 0, by rw [h1], by unfold maxLen; omega, .inl h1⟩
  · refine ⟨some ⟨g, 0, none⟩, cap, rfl, by omega, .inr ⟨g, 0, rfl, hc, (Array.getElem?_eq_some_iff.1 hg).1, fun j hj => ?_⟩⟩
    obtain ⟨e1, e2⟩ := spCells_get l j hj
    have := h.cells (g := g) rfl (j * 2) _ e1
    have := h.cells (g := g) rfl (j * 2 + 1) _ e2
    rw [addr_at] at *
    constructor
    · assumption
    · assumption
def SprPost (w : World) (l : Sl) (n : Nat) (e : Ending) (w' : World) : Prop := ∃ a cap, e = .returned (.slice a n cap) ∧ SpAt w' a cap l ∧ Below w.heap.size w w'
set_option maxHeartbeats 4000000 in
theorem spans_row {l : Sl} {a : Option Addr} {cap' : Nat} {w : World} (h : SpAt w a cap' l) (hl : l.length ≤ 1000000) (n : Nat) (hn : l.length = n) :
    Calls Tryd.prog 30 #[.slice a n cap'] w (SprPost w l n) := by
  have hnI : (n : Int) ≤ 9223372036854775807 := by omega
  have Hsp := Lib.hid h
  have HN := Lib.hid hn
  have Hn := Lib.hid (show n ≤ 1000000 by omega)
  clear h hn hl
  go_enter Tryd.func30, Tryd.ntmps30
  go_wp2_with fail
  go_loopw [3, 4] (fun vv i wr => ∃ (j : Nat) (v0 : Value), v0 = vv ∧ i = .int .i64 j ∧ j ≤ n ∧ Hid (wr.ownsRow w.heap.size 99 2 v0 j (spCells (l.take j))) ∧ Hid (Below w.heap.size w wr)) (fun _ i _ => n - (intOf i).toNat)
  case atStart => exact ⟨0, _, rfl, rfl, Nat.zero_le _, Lib.hid ⟨by rw [List.take_zero]; rfl, .inl ⟨rfl, rfl⟩⟩, Lib.hid (Below.refl _ _)⟩
  case round =>
    obtain ⟨j, v0, rfl, rfl, hj, hown, hB⟩ := hrel
    by_cases hjn : j < n
    · have hd : decide ((j : Int) < n) = true := by simp; omega
      have hjl : j < l.length := by have := HN.out; omega
      obtain ⟨bn, off, rfl, hcap, hbn, hcells⟩ := Hsp.out.2.resolve_left (by omega)
      have hc := hcells j hjl
      have htk : l.take (j + 1) = l.take j ++ [l[j]] := List.take_succ_eq_append_getElem hjl
      generalize l[j] = q at hc htk
      obtain ⟨f, t⟩ := q
      have Htk := Lib.hid htk
      have k0 : ∀ L : HeldW (fun w' => Below w.heap.size w w'), L.val.cell? ⟨bn, off + j * 2, none⟩ = some (.int .i64 f) := fun L => (L.ok.cell (p := ⟨bn, off + j * 2, none⟩) hbn).trans hc.1
      have k1 : ∀ L : HeldW (fun w' => Below w.heap.size w w'), L.val.cell? ⟨bn, off + j * 2 + 1, none⟩ = some (.int .i64 t) := fun L => (L.ok.cell (p := ⟨bn, off + j * 2 + 1, none⟩) hbn).trans hc.2
      have hcapI : (n : Int) ≤ cap' := by have := HN.out; omega
      clear hcells hc htk hcap hjl
      go_upto_region 5 with fail
      obtain ⟨wd, hwd⟩ : ∃ wd, wd = wr.drew := ⟨_, rfl⟩
      have hBd0 : Below wr.heap.size wr wd := by rw [hwd]; exact (Below.refl _ _).drew
      have hBd : Below w.heap.size w wd := hB.out.trans (hBd0.mono hB.out.size)
      have hod := own_below hown.out hBd0
      have hne : Nonempty (HeldW (fun w' => Below w.heap.size w w')) := HeldW.nonempty hBd
      refine wp_region_hold (fun w' => Below w.heap.size w w') (.plain 0 (.plain 1 (.plain 2 (.plain 3 (.plain 4 (.plain 5 (.plain 6 (.plain 7 (.plain 8 (.plain 9 (.plain 10 (.plain 11 (.sole 12 (.sole 13 (.plain 14 .done))))))))))))))) (by rw [← hwd]; exact hBd) (by kernel_rfl) (by kernel_rfl) (fun c a d v w h => by cases d <;> exact h) ?_
      rw [← hwd]
      clear hwd
      repeat (first
          | (refine' hold_skip ?_ ?_ ?_
             rotate_left 1
             · simp only [List.getElem?_toArray, List.getElem?_cons_zero, List.getElem?_cons_succ]; exact rfl
             · exact rfl
             simp only [Act.put, List.setIfInBounds_toArray, List.set_cons_zero, List.set_cons_succ])
          | (refine' hold_want ?_ ?_ (fun J hJ => ?_)
             rotate_left 1
             · simp only [List.getElem?_toArray, List.getElem?_cons_zero, List.getElem?_cons_succ]; exact rfl
             · exact rfl
             first
             | (refine quiet_extract _ _ rfl _ _ rfl rfl ?_; refine hJ _ ?_; clear hJ J; try simp only [Act.put, List.setIfInBounds_toArray, List.set_cons_zero, List.set_cons_succ])
             | (go_big_quiet_op; refine hJ _ ?_; clear hJ J; try simp only [Act.put, List.setIfInBounds_toArray, List.set_cons_zero, List.set_cons_succ])))
      refine' hold_sole ?_ ?_ (fun J hJ => ?_)
      rotate_left 1
      · simp only [List.getElem?_toArray, List.getElem?_cons_zero, List.getElem?_cons_succ]; exact rfl
      · exact rfl
      unfold Oper.wp execOp
      go_simp
      obtain ⟨wb, hwb⟩ : ∃ wb, wb = wd.alloc (.cells #[.int .i64 f, .int .i64 t] 99) := ⟨_, rfl⟩
      have hbb : Below wd.heap.size wd wb := by rw [hwb]; exact K.alloc_below _ _
      have hxb : wb.heap[wd.heap.size]? = some (.cells #[.int .i64 f, .int .i64 t] 99) := by rw [hwb]; exact World.alloc_heap_new wd _
      rw [← hwb]
      clear hwb
      have hBb : Below w.heap.size w wb := hBd.trans (hbb.mono hBd.size)
      have hob := own_below hod hbb
      refine hJ _ _ hBb ?_
      clear hJ J
      try simp only [Act.put, List.setIfInBounds_toArray, List.set_cons_zero, List.set_cons_succ]
      refine' hold_sole ?_ ?_ (fun J hJ => ?_)
      rotate_left 1
      · simp only [List.getElem?_toArray, List.getElem?_cons_zero, List.getElem?_cons_succ]; exact rfl
      · exact rfl
      refine wp_append_rspan _ _ rfl w.heap.size _ j _ rfl hob wd.heap.size f t rfl (by rw [cells_at hxb]; rfl) (by rw [cells_at hxb]; rfl) (by have := Hn.out; omega) hBb.size ?_
      intro v' wa hown2 hgr2
      have hBa : Below w.heap.size w wa := hBb.grown hgr2 hBb.size (fun k e => (hob.lt k e).1)
      refine hJ _ _ hBa ?_
      clear hJ J
      have H2 := Lib.hid (And.intro hown2 hBa)
      clear hown2 hgr2 hBa
      try simp only [Act.put, List.setIfInBounds_toArray, List.set_cons_zero, List.set_cons_succ]
      repeat (first
          | (refine' hold_skip ?_ ?_ ?_
             rotate_left 1
             · simp only [List.getElem?_toArray, List.getElem?_cons_zero, List.getElem?_cons_succ]; exact rfl
             · exact rfl
             simp only [Act.put, List.setIfInBounds_toArray, List.set_cons_zero, List.set_cons_succ])
          | (refine' hold_want ?_ ?_ (fun J hJ => ?_)
             rotate_left 1
             · simp only [List.getElem?_toArray, List.getElem?_cons_zero, List.getElem?_cons_succ]; exact rfl
             · exact rfl
             first
             | (refine quiet_extract _ _ rfl _ _ rfl rfl ?_; refine hJ _ ?_; clear hJ J; try simp only [Act.put, List.setIfInBounds_toArray, List.set_cons_zero, List.set_cons_succ])
             | (go_big_quiet_op; refine hJ _ ?_; clear hJ J; try simp only [Act.put, List.setIfInBounds_toArray, List.set_cons_zero, List.set_cons_succ])))
      refine hold_done ?_
      go_wp2_with fail
      go_roundw
      case rel => exact ⟨j + 1, _, rfl, by go_num, by omega, Lib.hid (by rw [Htk.out, spCells_snoc]; exact H2.out.1), Lib.hid H2.out.2⟩
      case measure => simp [intOf]; omega

    · have hd : decide ((j : Int) < n) = false := by simp; omega
      obtain rfl : j = n := by omega
      have ho := hown.out
      rw [List.take_of_length_le (by have := HN.out; omega)] at ho
      have hnj := HN.out
      rw [← hnj] at ho
      obtain ⟨av, capv, hv, hsp⟩ := spr_of_owns ho
      rw [hnj] at hv
      subst hv
      have Hs := Lib.hid hsp
      clear ho hsp hnj
      go_wp2_with fail
      go_ret
      exact ⟨av, capv, rfl, Hs.out, hB.out⟩
end V
end Go.Proofs.YtonhmjfopidacaaDoor
namespace Go.Proofs.YtonhmjfopidacaaDoor
namespace V
set_option maxRecDepth 100000
open Go.RowKit
/-- a number's digits -/
def numT (n : Nat) : List Nat := (Lib.decDigits n).map UInt8.toNat
theorem numT_lt {n : Nat} (h : n < 10) : numT n = [48 + n] := by
  unfold numT
  rw [Lib.decDigits, dif_pos h]
  simp
  omega
theorem numT_ge {n : Nat} (h : ¬ n < 10) : numT n = numT (n / 10) ++ [48 + n % 10] := by
  unfold numT
  rw [Lib.decDigits, dif_neg h, List.map_append]
  simp
  omega
theorem numT_len (n : Nat) (h : n ≤ 9223372036854775808) : (numT n).length ≤ 19 := by
  unfold numT
  rw [List.length_map]
  exact decDigits_len 18 n (by have : (9223372036854775808 : Nat) < 10 ^ 19 := by decide
                               omega)
theorem intT_pos (n : Nat) : intT (n : Int) = numT n := by
  unfold intT numT Lib.itoa
  rw [if_neg (by omega)]; rfl
theorem intT_neg (n : Int) (h : n < 0) : intT n = 45 :: numT n.natAbs := by
  unfold intT numT Lib.itoa
  rw [if_pos h]; rfl
def nb3 (B0 : Nat) (n : Nat) (T : List Nat) : List Fact := [
  isEq (.int .i64 (n : Int)),
  isEq (.int .i64 ((n / 10 : Nat) : Int)),
  isText T,
  isEq (.int .i64 (n : Int)),
  isEq (.int .i64 ((n % 10 : Nat) : Int)),
  isEq (.int .i64 ((48 + n % 10 : Nat) : Int)),
  isEq (.int .u8 (48 + n % 10 : Nat)),
  isLit B0 [48 + n % 10],
  isText [48 + n % 10],
  isText (T ++ [48 + n % 10]),
  isText (T ++ [48 + n % 10])]
theorem nb3_stable (B0 n : Nat) (T : List Nat) : AllG (fun _ P => Stable P) 0 (nb3 B0 n T) := by
  unfold nb3
  refine AllG.cons (k' := 1) rfl (isEq.stable _) ?_
  refine AllG.cons (k' := 2) rfl (isEq.stable _) ?_
  refine AllG.cons (k' := 3) rfl (isText.stable _) ?_
  refine AllG.cons (k' := 4) rfl (isEq.stable _) ?_
  refine AllG.cons (k' := 5) rfl (isEq.stable _) ?_
  refine AllG.cons (k' := 6) rfl (isEq.stable _) ?_
  refine AllG.cons (k' := 7) rfl (isEq.stable _) ?_
  refine AllG.cons (k' := 8) rfl (isLit.stable _ _) ?_
  refine AllG.cons (k' := 9) rfl (isText.stable _) ?_
  refine AllG.cons (k' := 10) rfl (isText.stable _) ?_
  refine AllG.cons (k' := 11) rfl (isText.stable _) ?_
  exact AllG.nil
theorem quo_ten (n : Nat) : Int.tdiv (n : Int) 10 = ((n / 10 : Nat) : Int) := by
  rw [Int.tdiv_eq_ediv_of_nonneg (by omega)]; omega
theorem rem_ten (n : Nat) : Int.tmod (n : Int) 10 = ((n % 10 : Nat) : Int) := by
  rw [Int.tmod_eq_emod_of_nonneg (by omega)]; omega
theorem dig_text (w : World) (z : Int) (d : Nat) (hz : z = (d : Int)) (hd : d < 256) : (convert 75 9 (.slice (some ⟨w.heap.size, 0, none⟩) 1 1)).run Tryd.prog (w.alloc (.cells #[.int .u8 z] 5)) = .ok (.string ⟨#[UInt8.ofNat d]⟩) (w.alloc (.cells #[.int .u8 z] 5)) := by
  subst hz
  exact string_at (bytes_lit w [d] #[.int .u8 d] rfl (by simpa using hd) (by unfold maxLen; simp))
theorem dig_nats (d : Nat) (hd : d < 256) : nats ⟨#[UInt8.ofNat d]⟩ = [d] := nats_bytes (l := [d]) (by simpa using hd)
set_option maxHeartbeats 4000000 in
theorem number_any : ∀ (m n : Nat) (w : World), n ≤ m → n < 9223372036854775808 → Calls Tryd.prog 63 #[.int .i64 (n : Int)] w (TextIs w (numT n)) := by
  intro m
  induction m with
  | zero =>
    intro n w h hb
    obtain rfl : n = 0 := by omega
    have hst := dig_text w 48 48 rfl (by decide)
    have Hfin := Lib.hid (show nats ⟨#[UInt8.ofNat 48]⟩ = numT 0 from by rw [numT_lt (by decide), dig_nats _ (by decide)])
    clear h hb
    go_enter Tryd.func63, Tryd.ntmps63
    go_wp2_with fail
    go_ret
    exact ⟨⟨_, rfl, Hfin.out⟩, (Below.refl _ _).alloc (Nat.le_refl _) _⟩
  | succ m ih =>
    intro n w h hb
    by_cases h10 : n < 10
    · have e0 : decide ((n : Int) < 10) = true := by simp; omega
      have hst := dig_text w (48 + (n : Int)) (48 + n) (by omega) (by omega)
      have Hfin := Lib.hid (show nats ⟨#[UInt8.ofNat (48 + n)]⟩ = numT n from by rw [numT_lt h10, dig_nats _ (by omega)])
      generalize UInt8.ofNat (48 + n) = u at *
      clear ih h
      go_enter Tryd.func63, Tryd.ntmps63
      go_wp2_with fail
      go_ret
      exact ⟨⟨_, rfl, Hfin.out⟩, (Below.refl _ _).alloc (Nat.le_refl _) _⟩
    · have e0 : decide ((n : Int) < 10) = false := by simp; omega
      have hcall := fun (w' : World) => ih (n / 10) w' (by omega) (by omega)
      have hfin := numT_ge h10
      have hlen : (numT (n / 10)).length ≤ 19 := numT_len _ (by omega)
      generalize numT (n / 10) = T at *
      clear ih h
      go_enter Tryd.func63, Tryd.ntmps63
      go_upto_region 3 with fail
      -- REGION
      go_cut [2] from 10 to 19 (fun v wx => (∃ s, v = .string s ∧ nats s = numT n) ∧ Below w.heap.size w wx)
      case first =>
        rename_i J K' hR hMet
        refine wp_region_guards2 (factAt (nb3 w.heap.size n T)) (W0 := w) (by kernel_rfl) (by kernel_rfl) (by kernel_rfl) (Below.refl _ _) (fun i v w w' h hk => factAt_stable (nb3_stable _ _ _) i v w w' h hk) [] (by kernel_rfl) ?hgu ?hskip ?hop ?hend
        case hgu =>
          intro j hj v w h
          cases hj
        case hskip =>
          refine AllG.get0 ?_
          refine AllG.cons (k' := 1) rfl (fun h => by have h' : true = false := h; cases h') ?_
          refine AllG.cons (k' := 2) rfl (fun h => by have h' : true = false := h; cases h') ?_
          refine AllG.cons (k' := 3) rfl (fun h => by have h' : true = false := h; cases h') ?_
          refine AllG.cons (k' := 4) rfl (fun h => by have h' : true = false := h; cases h') ?_
          refine AllG.cons (k' := 5) rfl (fun h => by have h' : true = false := h; cases h') ?_
          refine AllG.cons (k' := 6) rfl (fun h => by have h' : true = false := h; cases h') ?_
          refine AllG.cons (k' := 7) rfl (fun h => by have h' : true = false := h; cases h') ?_
          refine AllG.cons (k' := 8) rfl (fun h => by have h' : true = false := h; cases h') ?_
          refine AllG.cons (k' := 9) rfl (fun h => by have h' : true = false := h; cases h') ?_
          refine AllG.cons (k' := 10) rfl (fun h => by have h' : true = false := h; cases h') ?_
          refine AllG.cons (k' := 11) rfl (fun h => by have h' : true = false := h; cases h') ?_
          exact AllG.nil
        case hop =>
          refine AllG.get0 ?_
          refine AllG.cons (k' := 1) rfl ?_ ?_
          · intro _
            intro a' w' hB hk hin KK hK
            have hkk : a'.tmps[0]? = some (.int .i64 (n : Int)) := (hk 0 (by kernel_rfl)).trans rfl
            have hev := eval_tmp hkk
            unfold Oper.wp execOp
            simp only [hev, Sem.run_pure]
            exact hK _ _ hB (KeepsC.of_below (Below.refl _ _)) (fact_put (P := isEq (.int .i64 (n : Int))) rfl rfl)
          refine AllG.cons (k' := 2) rfl ?_ ?_
          · intro _
            intro a' w' hB hk hin KK hK
            obtain ⟨v1, e1, q1⟩ := hin 0 _ 10 rfl rfl ⟨{ on := 0, ground := .data }, by simp, rfl, rfl⟩
            have q1 := fact_get (P := isEq (.int .i64 (n : Int))) rfl q1
            have q1' : v1 = .int .i64 (n : Int) := q1
            subst q1'
            unfold Oper.wp execOp
            go_simp
            exact hK _ _ hB (KeepsC.of_below (Below.refl _ _)) (fact_put (P := isEq (.int .i64 ((n / 10 : Nat) : Int))) rfl (congrArg (Value.int .i64) ((wrap_i64_of _ (by omega) (by omega)).trans (by omega))))
          refine AllG.cons (k' := 3) rfl ?_ ?_
          · intro _
            intro a' w' hB hk hin KK hK
            obtain ⟨v2, e2, q2⟩ := hin 1 _ 11 rfl rfl ⟨{ on := 1, ground := .data }, by simp, rfl, rfl⟩
            have q2 := fact_get (P := isEq (.int .i64 ((n / 10 : Nat) : Int))) rfl q2
            have q2' : v2 = .int .i64 ((n / 10 : Nat) : Int) := q2
            subst q2'
            go_simp
            refine (hcall w').mono ?_
            rintro e w2 ⟨⟨s, rfl, hs⟩, hb2⟩
            exact hK _ _ (hB.trans (hb2.mono hB.size)) (KeepsC.of_below hb2) (fact_put (P := isText T) rfl ⟨_, rfl, hs⟩)
          refine AllG.cons (k' := 4) rfl ?_ ?_
          · intro _
            intro a' w' hB hk hin KK hK
            have hkk : a'.tmps[0]? = some (.int .i64 (n : Int)) := (hk 0 (by kernel_rfl)).trans rfl
            have hev := eval_tmp hkk
            unfold Oper.wp execOp
            simp only [hev, Sem.run_pure]
            exact hK _ _ hB (KeepsC.of_below (Below.refl _ _)) (fact_put (P := isEq (.int .i64 (n : Int))) rfl rfl)
          refine AllG.cons (k' := 5) rfl ?_ ?_
          · intro _
            intro a' w' hB hk hin KK hK
            obtain ⟨v4, e4, q4⟩ := hin 3 _ 13 rfl rfl ⟨{ on := 3, ground := .data }, by simp, rfl, rfl⟩
            have q4 := fact_get (P := isEq (.int .i64 (n : Int))) rfl q4
            have q4' : v4 = .int .i64 (n : Int) := q4
            subst q4'
            have hq := rem_ten n
            unfold Oper.wp execOp
            go_simp
            exact hK _ _ hB (KeepsC.of_below (Below.refl _ _)) (fact_put (P := isEq (.int .i64 ((n % 10 : Nat) : Int))) rfl rfl)
          refine AllG.cons (k' := 6) rfl ?_ ?_
          · intro _
            intro a' w' hB hk hin KK hK
            obtain ⟨v5, e5, q5⟩ := hin 4 _ 14 rfl rfl ⟨{ on := 4, ground := .data }, by simp, rfl, rfl⟩
            have q5 := fact_get (P := isEq (.int .i64 ((n % 10 : Nat) : Int))) rfl q5
            have q5' : v5 = .int .i64 ((n % 10 : Nat) : Int) := q5
            subst q5'
            unfold Oper.wp execOp
            go_simp
            exact hK _ _ hB (KeepsC.of_below (Below.refl _ _)) (fact_put (P := isEq (.int .i64 ((48 + n % 10 : Nat) : Int))) rfl (congrArg (Value.int .i64) ((wrap_i64_of _ (by omega) (by omega)).trans (by omega))))
          refine AllG.cons (k' := 7) rfl ?_ ?_
          · intro _
            intro a' w' hB hk hin KK hK
            obtain ⟨v6, e6, q6⟩ := hin 5 _ 15 rfl rfl ⟨{ on := 5, ground := .data }, by simp, rfl, rfl⟩
            have q6 := fact_get (P := isEq (.int .i64 ((48 + n % 10 : Nat) : Int))) rfl q6
            have q6' : v6 = .int .i64 ((48 + n % 10 : Nat) : Int) := q6
            subst q6'
            have hlt : n % 10 < 10 := Nat.mod_lt _ (by decide)
            have hz8 : ((48 + n % 10 : Nat) : Int) % 256 = ((48 + n % 10 : Nat) : Int) := by omega
            generalize hz : ((48 + n % 10 : Nat) : Int) = z at *
            unfold Oper.wp execOp
            go_simp
            rw [IntKind.wrap_u8, hz8]
            exact hK _ _ hB (KeepsC.of_below (Below.refl _ _)) (fact_put (P := isEq (.int .u8 (48 + n % 10 : Nat))) rfl (congrArg (Value.int .u8) hz.symm))
          refine AllG.cons (k' := 8) rfl ?_ ?_
          · intro _
            intro a' w' hB hk hin KK hK
            obtain ⟨v7, e7, q7⟩ := hin 6 _ 16 rfl rfl ⟨{ on := 6, ground := .data }, by simp, rfl, rfl⟩
            have q7 := fact_get (P := isEq (.int .u8 (48 + n % 10 : Nat))) rfl q7
            have q7' : v7 = .int .u8 (48 + n % 10 : Nat) := q7
            subst q7'
            have hlt : n % 10 < 10 := Nat.mod_lt _ (by decide)
            unfold Oper.wp execOp
            go_simp
            exact hK _ _ (hB.alloc hB.size _) (KeepsC.of_below ((Below.refl _ _).alloc (Nat.le_refl _) _)) (fact_put (P := isLit w.heap.size [48 + n % 10]) rfl ⟨w'.heap.size, _, _, rfl, World.alloc_heap_new _ _, bytes_lit w' [48 + n % 10] #[.int .u8 (48 + n % 10 : Nat)] rfl (by simp; omega) (by unfold maxLen; simp), hB.size⟩)
          refine AllG.cons (k' := 9) rfl ?_ ?_
          · intro _
            intro a' w' hB hk hin KK hK
            obtain ⟨v8, e8, q8⟩ := hin 7 _ 17 rfl rfl ⟨{ on := 7, ground := .data }, by simp, rfl, rfl⟩
            have q8 := fact_get (P := isLit w.heap.size [48 + n % 10]) rfl q8
            obtain ⟨b8, cs8, f8, r8, hh8, hy8, hz8⟩ := q8
            subst r8
            have hst : (convert 75 9 _).run Tryd.prog w' = _ := string_at hy8
            unfold Oper.wp execOp
            simp only [eval_tmp e8, Sem.run_bind, Sem.run_pure, Result.andThen_ok, hst]
            exact hK _ _ hB (KeepsC.of_below (Below.refl _ _)) (fact_put (P := isText [48 + n % 10]) rfl ⟨_, rfl, nats_bytes hy8.2.1⟩)
          refine AllG.cons (k' := 10) rfl ?_ ?_
          · intro _
            intro a' w' hB hk hin KK hK
            obtain ⟨v9, e9, q9⟩ := hin 2 _ 12 rfl rfl ⟨{ on := 2, ground := .data }, by simp, rfl, rfl⟩
            have q9 := fact_get (P := isText T) rfl q9
            obtain ⟨t9, r9, ht9⟩ := q9
            subst r9
            obtain ⟨v10, e10, q10⟩ := hin 8 _ 18 rfl rfl ⟨{ on := 8, ground := .data }, by simp, rfl, rfl⟩
            have q10 := fact_get (P := isText [48 + n % 10]) rfl q10
            obtain ⟨t10, r10, ht10⟩ := q10
            subst r10
            have hs9 := size_nats ht9
            have hs10 : t10.size = 1 := size_nats ht10
            have hsum : (9223372036854775807 < t9.size + t10.size) = False := by simp; omega
            clear hs9 hs10
            unfold Oper.wp execOp
            go_simp
            exact hK _ _ hB (KeepsC.of_below (Below.refl _ _)) (fact_put (P := isText (T ++ [48 + n % 10])) rfl ⟨t9 ++ t10, rfl, by rw [nats_add, ht9, ht10]⟩)
          refine AllG.cons (k' := 11) rfl ?_ ?_
          · intro _
            intro a' w' hB hk hin KK hK
            obtain ⟨v11, e11, q11⟩ := hin 9 _ 19 rfl rfl ⟨{ on := 9, ground := .data }, by simp, rfl, rfl⟩
            have q11 := fact_get (P := isText (T ++ [48 + n % 10])) rfl q11
            obtain ⟨t11, r11, ht11⟩ := q11
            subst r11
            unfold Oper.wp execOp
            simp only [eval_tmp e11, Sem.run_pure]
            exact hK _ _ hB (KeepsC.of_below (Below.refl _ _)) (fact_put (P := isText (T ++ [48 + n % 10])) rfl ⟨_, rfl, ht11⟩)
          exact AllG.nil
        case hend =>
          intro a' w' hB hdef hsz hk hvals
          obtain ⟨v', hv', hvt⟩ := hvals 10 _ 2 rfl rfl
          have hvt := fact_get (P := isText (T ++ [48 + n % 10])) rfl hvt
          obtain ⟨s, rfl, hs⟩ := hvt
          have hf0 : a'.tmps.getD 2 undef = .string s := by rw [Array.getD_eq_getD_getElem?, hv']; rfl
          have heq := act_eq hdef hsz hk
          refine hMet a' w' (Met.intro (hR a' w' ?_))
          refine ⟨a'.tmps.getD 2 undef, a'.tmps.getD 10 undef, a'.tmps.getD 11 undef, a'.tmps.getD 12 undef, a'.tmps.getD 13 undef, a'.tmps.getD 14 undef, a'.tmps.getD 15 undef, a'.tmps.getD 16 undef, a'.tmps.getD 17 undef, a'.tmps.getD 18 undef, a'.tmps.getD 19 undef, ⟨⟨s, hf0, hs.trans hfin.symm⟩, hB⟩, heq.trans ?_⟩
          kernel_rfl

      case rest =>
        obtain ⟨⟨s, rfl, hs⟩, hb⟩ := hcut
        have H := Lib.hid (And.intro hs hb)
        clear hs hb hcall hfin hlen
        go_wp2_with fail
        go_ret
        exact ⟨⟨_, rfl, H.out.1⟩, H.out.2⟩

      -- END
theorem tdiv_neg (m : Nat) : Int.tdiv (-(m : Int)) 10 = -((m / 10 : Nat) : Int) := by
  rw [Int.neg_tdiv, quo_ten]
theorem tmod_neg (m : Nat) : Int.tmod (-(m : Int)) 10 = -((m % 10 : Nat) : Int) := by
  rw [Int.neg_tmod, rem_ten]
/-- the digits that are left -/
def restT (m : Nat) : List Nat := if m = 0 then [] else numT m
theorem rest_step (m : Nat) (h : 0 < m) : restT m = restT (m / 10) ++ [48 + m % 10] := by
  unfold restT
  rw [if_neg (by omega)]
  by_cases h10 : m < 10
  · rw [if_pos (by omega), numT_lt h10, Nat.mod_eq_of_lt h10]; rfl
  · rw [if_neg (by omega), numT_ge h10]
set_option maxHeartbeats 4000000 in
theorem whole_any (z : Int) (hz : fits64 z) (w : World) : Calls Tryd.prog 47 #[.int .i64 z] w (TextIs w (intT z)) := by
  have hzb := fits_bounds hz
  clear hz
  by_cases hneg : z < 0
  · obtain ⟨m, rfl⟩ : ∃ m : Nat, z = -(m : Int) := ⟨z.natAbs, by omega⟩
    have e0 : decide (-(m : Int) < 0) = true := by simp; omega
    have hT : intT (-(m : Int)) = 45 :: numT m := by rw [intT_neg _ hneg, show (-(m : Int)).natAbs = m from by omega]
    have hm0 : 0 < m := by omega
    have e2 : decide (0 < m) = true := by simpa using hm0
    have hlen := numT_len m (by omega)
    have hT2 : restT m = numT m := by unfold restT; rw [if_neg (by omega)]
    rw [hT, ← hT2]
    rw [← hT2] at hlen
    have hm1 : m ≤ 9223372036854775808 := by omega
    have Hm := Lib.hid hm1
    have Hlen := Lib.hid hlen
    clear hT hT2 hneg hlen hzb hm1
    generalize hR : restT m = R at *
    have HR := Lib.hid hR
    clear hR hm0
    go_enter Tryd.func47, Tryd.ntmps47
    go_wp2_with fail
    go_loopw [0, 3] (fun t s wr => ∃ (j : Nat) (u : ByteArray), t = .int .i64 (-(j : Int)) ∧ s = .string u ∧ Hid (j ≤ 9223372036854775808) ∧ Hid (restT j ++ nats u = R) ∧ Hid (Below w.heap.size w wr)) (fun t _ _ => (-(intOf t)).toNat)
    case atStart => exact ⟨m, _, rfl, rfl, Hm, Lib.hid (by rw [HR.out]; simp [nats]), Lib.hid (Below.refl _ _)⟩
    case round =>
      obtain ⟨j, u, rfl, rfl, hj, hu, hB⟩ := hrel
      have Hbel := hB
      by_cases hj0 : j = 0
      · subst hj0
        have hu2 : nats u = R := by simpa [restT] using hu.out
        have hus := size_nats hu2
        have hsum : (9223372036854775807 < 1 + u.size) = False := by have := Hlen.out; simp; omega
        have Hu2 := Lib.hid hu2
        clear hu2 hus hu hj
        go_wp2_with fail
        go_ret
        exact ⟨⟨_, rfl, by rw [nats_add, Hu2.out]; rfl⟩, hB.out⟩
      · have e1 : decide (-(j : Int) < 0) = true := by simp; omega
        have e3 : decide (0 < j) = true := by simp; omega
        have hst := dig_text wr (48 + (j : Int) % 10) (48 + j % 10) (by omega) (by omega)
        have hd := dig_nats (48 + j % 10) (by omega)
        have hstep := rest_step j (by omega)
        have hq := tdiv_neg j
        have hr := tmod_neg j
        have hlt : j % 10 < 10 := Nat.mod_lt _ (by decide)
        generalize UInt8.ofNat (48 + j % 10) = d at *
        have hdj : (-(j : Int)).tdiv 10 = -((j : Int) / 10) := by omega
        have hus : u.size ≤ 19 := by
          have := congrArg List.length hu.out
          have := Hlen.out
          rw [List.length_append, size_nats (rfl : nats u = nats u).symm] at *
          omega
        have hsum : (9223372036854775807 < 1 + u.size) = False := by simp; omega
        have hw64 : wrap64 (-((j : Int) / 10)) = -((j : Int) / 10) := (by have := hj.out; unfold wrap64; omega)
        have Hs := Lib.hid (And.intro hstep (And.intro hd hj0))
        clear hstep hd hj0 hus hlt
        go_wp2_with fail
        go_roundw
        case rel =>
          refine ⟨j / 10, _, by go_num, rfl, Lib.hid (by have := hj.out; omega), Lib.hid ?_, Lib.hid (hB.out.trans (((Below.refl _ _).alloc (Nat.le_refl _) _).mono hB.out.size))⟩
          rw [nats_add, Hs.out.2.1, ← List.append_assoc, ← Hs.out.1]
          exact hu.out
        case measure => have := Hs.out.2.2; simp [intOf]; omega
  · obtain ⟨n, rfl⟩ : ∃ n : Nat, z = (n : Int) := ⟨z.toNat, by omega⟩
    have e0 : decide ((n : Int) < 0) = false := by simp
    rw [intT_pos]
    have hcall := fun (w' : World) => number_any n n w' (Nat.le_refl _) (by omega)
    clear hneg hzb
    go_enter Tryd.func47, Tryd.ntmps47
    go_wp2_with (first | (go_at_call 63; refine (hcall _).mono ?_; rintro e w2 ⟨⟨s, rfl, hs⟩, hb2⟩; have H2 := Lib.hid (And.intro hs hb2); clear hs hb2) | fail)
    go_ret
    exact ⟨⟨_, rfl, H2.out.1⟩, H2.out.2⟩
theorem natsW_inj {t u : ByteArray} (h : nats t = nats u) : t = u := by
  apply ByteArray.ext
  apply Array.toList_inj.1
  exact (List.map_inj_right (fun a b h => UInt8.toNat_inj.1 h)).1 h
theorem wholeS_any (z : Int) (hz : fits64 z) (w : World) : Calls Tryd.prog 47 #[.int .i64 z] w fun e w' => e = .returned (.string (intS z)) ∧ Below w.heap.size w w' := by
  refine (whole_any z hz w).mono ?_
  rintro e w' ⟨⟨s, rfl, hs⟩, hb⟩
  exact ⟨by rw [natsW_inj (hs.trans (intS_nats z).symm)], hb⟩
/-! spans of the document's own in memory: as caps' own -/
set_option maxHeartbeats 4000000 in
theorem spansText_any {l : Sl} (hl : l.length ≤ 1000000) (hfit : ∀ q ∈ l, fits64 q.1 ∧ fits64 q.2) {a : Option Addr} {cap' : Nat} {w : World} (h : SpAt w a cap' l) :
    Calls Tryd.prog 31 #[.slice a l.length cap'] w (TextIs w (slT l)) := by
  obtain ⟨n, hn⟩ : ∃ n, n = l.length := ⟨_, rfl⟩
  rw [← hn]
  have hnI : (n : Int) ≤ 9223372036854775807 := by omega
  have Hsp := Lib.hid (And.intro h hfit)
  have HN := Lib.hid (And.intro hn hl)
  clear h hfit hn hl
  go_enter Tryd.func31, Tryd.ntmps31
  go_wp2_with fail
  go_loopw [3, 4] (fun v i wr => ∃ (j : Nat) (t : ByteArray), v = .string t ∧ i = .int .i64 j ∧ j ≤ n ∧ Hid (nats t = slT (l.take j)) ∧ Hid (Below w.heap.size w wr)) (fun _ i _ => n - (intOf i).toNat)
  case atStart => exact ⟨0, _, rfl, rfl, Nat.zero_le _, Lib.hid (by rw [List.take_zero]; rfl), Lib.hid (Below.refl _ _)⟩
  case round =>
    obtain ⟨j, u, rfl, rfl, hj, hu, hbr⟩ := hrel
    by_cases hjn : j < n
    · have hd : decide ((j : Int) < n) = true := by simp; omega
      have hjl : j < l.length := by have := HN.out.1; omega
      obtain ⟨bn, off, rfl, hcap, hbn, hcells⟩ := Hsp.out.1.2.resolve_left (by omega)
      have hc := hcells j hjl
      have hq := Hsp.out.2 l[j] (List.getElem_mem hjl)
      have hst := slT_step l j hjl
      have hlen := slT_len l Hsp.out.2 j (by omega)
      generalize l[j] = q at hc hq hst
      obtain ⟨f, t⟩ := q
      have c0 : wr.cell? ⟨bn, off + j * 2, none⟩ = some (.int .i64 f) := by rw [hbr.out.cell (p := ⟨bn, off + j * 2, none⟩) hbn]; exact hc.1
      have c1 : wr.cell? ⟨bn, off + j * 2 + 1, none⟩ = some (.int .i64 t) := by rw [hbr.out.cell (p := ⟨bn, off + j * 2 + 1, none⟩) hbn]; exact hc.2
      have hbr0 : bn < wr.heap.size := Nat.lt_of_lt_of_le hbn hbr.out.size
      have k0 : ∀ L : Later wr, L.val.cell? ⟨bn, off + j * 2, none⟩ = some (.int .i64 f) := fun L => (L.cell ⟨bn, off + j * 2, none⟩ hbr0).trans c0
      have k1 : ∀ L : Later wr, L.val.cell? ⟨bn, off + j * 2 + 1, none⟩ = some (.int .i64 t) := fun L => (L.cell ⟨bn, off + j * 2 + 1, none⟩ hbr0).trans c1
      have hcapI : (n : Int) ≤ cap' := by have := HN.out.1; omega
      have hus : u.size ≤ 44000000 := by rw [size_nats hu.out]; have := HN.out; omega
      have Hq := Lib.hid hq
      have Hst := Lib.hid hst
      clear hlen hc hcells hbn hcap hjl hbr0
      have hp1 : (9223372036854775807 < u.size + 1) = False := by simp; omega
      by_cases hb : f = -1 ∧ t = -1
      · obtain ⟨rfl, rfl⟩ := hb
        have Hnext := Lib.hid (show nats ((if j = 0 then u else u ++ ⟨#[32]⟩) ++ ⟨#[45]⟩) = slT (l.take (j + 1)) from by
          rw [hst, nats_add]
          split
          · rw [hu.out, List.append_nil]; rfl
          · rw [nats_add, hu.out]; rfl)
        have hp2 : (9223372036854775807 < u.size + 1 + 1) = False := by simp; omega
        clear hst hq
        by_cases hj0 : j = 0
        · have e0 : decide ((j : Int) > 0) = false := by simp; omega
          have e1 : decide ((0 : Int) < j) = false := by simp; omega
          have e2 : decide (0 < j) = false := by simp; omega
          rw [if_pos hj0] at Hnext
          have Hj0 := Lib.hid hj0
          clear hj0
          go_wp2_with fail
          go_roundw
          case rel => exact ⟨j + 1, _, rfl, by go_num, by omega, Lib.hid Hnext.out, Lib.hid hbr.out⟩
          case measure => simp [intOf]; omega
        · have e0 : decide ((j : Int) > 0) = true := by simp; omega
          have e1 : decide ((0 : Int) < j) = true := by simp; omega
          have e2 : decide (0 < j) = true := by simp; omega
          rw [if_neg hj0] at Hnext
          have Hj0 := Lib.hid hj0
          clear hj0
          go_wp2_with fail
          go_roundw
          case rel => exact ⟨j + 1, _, rfl, by go_num, by omega, Lib.hid Hnext.out, Lib.hid hbr.out⟩
          case measure => simp [intOf]; omega
      · have hsp : spanT (f, t) = 40 :: (intT f ++ 44 :: (intT t ++ [41])) := by
          unfold spanT
          rw [if_neg (fun e => hb (by injection e with e1 e2; exact ⟨e1, e2⟩))]
        have hs1 := intS_size f hq.1
        have hs2 := intS_size t hq.2
        have hn1 := intS_nats f
        have hn2 := intS_nats t
        have hc1 : ∀ L : Later wr, Calls Tryd.prog 47 #[.int .i64 f] L.val fun e w' => e = .returned (.string (intS f)) ∧ Below L.val.heap.size L.val w' := fun L => wholeS_any f hq.1 _
        have hc2 : ∀ L : Later wr, Calls Tryd.prog 47 #[.int .i64 t] L.val fun e w' => e = .returned (.string (intS t)) ∧ Below L.val.heap.size L.val w' := fun L => wholeS_any t hq.2 _
        rw [hsp] at hst
        generalize intS f = x at *
        generalize intS t = y at *
        have Hnext := Lib.hid (show nats (((((if j = 0 then u else u ++ ⟨#[32]⟩) ++ ⟨#[40]⟩) ++ x ++ ⟨#[44]⟩) ++ y) ++ ⟨#[41]⟩) = slT (l.take (j + 1)) from by
          rw [hst, nats_add, nats_add, nats_add, nats_add, nats_add, hn1, hn2]
          split
          · rw [hu.out]; simp [nats]
          · rw [nats_add, hu.out]; simp [nats])
        have Hi1 := Lib.hid hc1
        have Hi2 := Lib.hid hc2
        have hne : ¬ f = -1 ∨ f = -1 ∧ ¬ t = -1 := by omega
        clear hst hq hsp hn1 hn2 hc1 hc2 hb
        by_cases hj0 : j = 0
        ·
          have e0 : decide ((j : Int) > 0) = false := by simp; omega
          have e1 : decide ((0 : Int) < j) = false := by simp; omega
          have e2 : decide (0 < j) = false := by simp; omega
          rw [if_pos hj0] at Hnext
          have Hj0 := Lib.hid hj0
          clear hj0
          obtain ⟨U, hU⟩ : ∃ U, U = (((((u ++ ⟨#[40]⟩) ++ x ++ ⟨#[44]⟩) ++ y) ++ ⟨#[41]⟩) : ByteArray) := ⟨_, rfl⟩
          rw [← hU] at Hnext
          have HU := Lib.hid (congrArg Value.string hU.symm)
          clear hU
          have z0 : (9223372036854775807 < u.size + 1) = False := by simp; omega
          have z1 : (9223372036854775807 < u.size + 1 + x.size) = False := by simp; omega
          have z2 : (9223372036854775807 < u.size + 1 + x.size + 1) = False := by simp; omega
          have z3 : (9223372036854775807 < u.size + 1 + x.size + 1 + y.size) = False := by simp; omega
          have z4 : (9223372036854775807 < u.size + 1 + x.size + 1 + y.size + 1) = False := by simp; omega
          rcases hne with hne | ⟨rfl, hne⟩
          all_goals
            go_upto_region 9 with (first | go_big_skip | fail)
            have hnn : Nonempty (Later wr) := Later.nonempty wr
            refine wp_region_later (Below.refl _ _) (by kernel_rfl) (by kernel_rfl) ?_
            iterate 7 (go_big_quiet_step (fail))
            go_big_quiet_step (exact Later.calls (Hi1.out _))
            iterate 7 (go_big_quiet_step (fail))
            go_big_quiet_step (exact Later.calls (Hi2.out _))
            iterate 3 (go_big_quiet_step (fail))
            refine wpQuiet_nil ?_
            intro w' hw'
            obtain ⟨L', rfl⟩ := hw'
            have Hbx := Lib.hid L'.ok
            go_wp2_with fail
            go_roundw
            case rel => exact ⟨j + 1, _, HU.out, by go_num, by omega, Lib.hid Hnext.out, Lib.hid (hbr.out.trans (Hbx.out.mono hbr.out.size))⟩
            case measure => simp [intOf]; omega
        ·
          have e0 : decide ((j : Int) > 0) = true := by simp; omega
          have e1 : decide ((0 : Int) < j) = true := by simp; omega
          have e2 : decide (0 < j) = true := by simp; omega
          rw [if_neg hj0] at Hnext
          have Hj0 := Lib.hid hj0
          clear hj0
          obtain ⟨U, hU⟩ : ∃ U, U = ((((((u ++ ⟨#[32]⟩) ++ ⟨#[40]⟩) ++ x ++ ⟨#[44]⟩) ++ y) ++ ⟨#[41]⟩) : ByteArray) := ⟨_, rfl⟩
          rw [← hU] at Hnext
          have HU := Lib.hid (congrArg Value.string hU.symm)
          clear hU
          have z0 : (9223372036854775807 < u.size + 1 + 1) = False := by simp; omega
          have z1 : (9223372036854775807 < u.size + 1 + 1 + x.size) = False := by simp; omega
          have z2 : (9223372036854775807 < u.size + 1 + 1 + x.size + 1) = False := by simp; omega
          have z3 : (9223372036854775807 < u.size + 1 + 1 + x.size + 1 + y.size) = False := by simp; omega
          have z4 : (9223372036854775807 < u.size + 1 + 1 + x.size + 1 + y.size + 1) = False := by simp; omega
          rcases hne with hne | ⟨rfl, hne⟩
          all_goals
            go_upto_region 9 with (first | go_big_skip | fail)
            have hnn : Nonempty (Later wr) := Later.nonempty wr
            refine wp_region_later (Below.refl _ _) (by kernel_rfl) (by kernel_rfl) ?_
            iterate 7 (go_big_quiet_step (fail))
            go_big_quiet_step (exact Later.calls (Hi1.out _))
            iterate 7 (go_big_quiet_step (fail))
            go_big_quiet_step (exact Later.calls (Hi2.out _))
            iterate 3 (go_big_quiet_step (fail))
            refine wpQuiet_nil ?_
            intro w' hw'
            obtain ⟨L', rfl⟩ := hw'
            have Hbx := Lib.hid L'.ok
            go_wp2_with fail
            go_roundw
            case rel => exact ⟨j + 1, _, HU.out, by go_num, by omega, Lib.hid Hnext.out, Lib.hid (hbr.out.trans (Hbx.out.mono hbr.out.size))⟩
            case measure => simp [intOf]; omega
    · have hd : decide ((j : Int) < n) = false := by simp; omega
      obtain rfl : j = n := by omega
      have hlj : l.take j = l := List.take_of_length_le (by have := HN.out; omega)
      rw [hlj] at hu
      go_wp2_with fail
      go_ret
      exact ⟨⟨_, rfl, hu.out⟩, hbr.out⟩
end V
end Go.Proofs.YtonhmjfopidacaaDoor
namespace Go.Proofs.YtonhmjfopidacaaDoor
namespace V
set_option maxRecDepth 100000
open Go.ChangeShapes Go.WideShapes Go.ChangeAt Go.RowKit
theorem cellsSpan : Tryd.prog.cellsOf 47 = 2 := by kernel_rfl
theorem span_of_trod {H : Type} {enc : TypeId × Value → H} {W : World} {sp : Nat} {keep : Nat → Bool} {hd : Bool} {fuel : Nat} {cs : List Value} {x : DataW H × List MemPlace}
    (h : DataW.trod enc Tryd.prog W sp keep hd fuel 47 cs = some x) : ∃ f t : Int, cs = [.int .i64 f, .int .i64 t] ∧ fits64 f ∧ fits64 t := by
  obtain ⟨xs, n, hfu, hx1, hlen, hxl, hf⟩ := DataW.trod_struct Tryd.underlying47 h
  rw [cellsSpan] at hlen
  obtain ⟨c0, c1, rfl⟩ : ∃ c0 c1, cs = [c0, c1] := by
    match cs, hlen with
    | [a, b], _ => exact ⟨a, b, rfl⟩
  have f0 : DataW.trod enc Tryd.prog W sp keep hd n 3 (([c0, c1].drop 0).take (Tryd.prog.cellsOf 3)) = xs[0]? := hf 0 _ rfl
  have f1 : DataW.trod enc Tryd.prog W sp keep hd n 3 (([c0, c1].drop 1).take (Tryd.prog.cellsOf 3)) = xs[1]? := hf 1 _ rfl
  rw [show Tryd.prog.cellsOf 3 = 1 from by kernel_rfl] at f0 f1
  obtain ⟨x0, x1, rfl⟩ : ∃ x0 x1, xs = [x0, x1] := by
    have h6 : xs.length = 2 := hxl
    match xs, h6 with
    | [a, b], _ => exact ⟨a, b, rfl⟩
  obtain ⟨k, e0, _, w0⟩ := DataW.trod_int Tryd.underlying3 (show DataW.trod enc Tryd.prog W sp keep hd n 3 [c0] = some x0 from f0)
  obtain ⟨z, e1, _, w1⟩ := DataW.trod_int Tryd.underlying3 (show DataW.trod enc Tryd.prog W sp keep hd n 3 [c1] = some x1 from f1)
  cases e0; cases e1
  exact ⟨k, z, rfl, w0, w1⟩
theorem open_spans {H : Type} {enc : TypeId × Value → H} {W : World} {base sp : Nat} {keep : Nat → Bool} {hd : Bool} {r : Reach} {v : Value} {d : DataW H} {ps : List MemPlace}
    (hval : Value.okWide Tryd.prog W r base 33 v) (h : DataW.Trod enc Tryd.prog W sp keep hd 33 v d ps) : ∃ (a : Option Addr) (n cap : Nat) (L : Sl), v = .slice a n cap ∧ n = L.length ∧ SpAt W a cap L ∧ ∀ q ∈ L, fits64 q.1 ∧ fits64 q.2 := by
  obtain ⟨a, n, cap, rfl⟩ := okWide_slice Tryd.underlying33 hval
  obtain ⟨fuel, hf⟩ := h
  rcases DataW.trod_slice Tryd.underlying33 (show DataW.trod enc Tryd.prog W sp keep hd fuel 33 [.slice a n cap] = some (d, ps) from hf) with ⟨hc, _⟩ | ⟨a', len, cap', elems, rest, m, _, hc, _, _, hl, hm, hlen, hel, _, _⟩
  · cases hc
    exact ⟨none, 0, 0, [], rfl, rfl, ⟨by decide, .inl rfl⟩, fun q hq => by cases hq⟩
  · cases hc
    have hget : ∀ i, i < n → ∃ q : Int × Int, (W.cell? ((a'.add (i * 2)).add 0) = some (.int .i64 q.1) ∧ W.cell? ((a'.add (i * 2)).add 1) = some (.int .i64 q.2)) ∧ fits64 q.1 ∧ fits64 q.2 := by
      intro i hi
      have h1 := hel i hi
      rw [cellsSpan, List.getElem?_eq_getElem (by omega)] at h1
      simp only [Option.bind_eq_some_iff] at h1
      obtain ⟨cs, h2, h3⟩ := h1
      obtain ⟨h4, h5⟩ := cells_each h2
      obtain ⟨f, t, rfl, hf1, ht1⟩ := span_of_trod h3
      exact ⟨(f, t), ⟨h5 0 (by decide), h5 1 (by decide)⟩, hf1, ht1⟩
    by_cases h0 : n = 0
    · subst h0
      exact ⟨_, 0, cap, [], rfl, rfl, ⟨by decide, .inl rfl⟩, fun q hq => by cases hq⟩
    · obtain ⟨b, off, spot⟩ := a'
      obtain ⟨s0, hs0, _⟩ := hget 0 (by omega)
      have c0 := hs0.1
      have hspot : spot = none := by simpa [Addr.add] using World.cell?_spot c0
      subst hspot
      have hb : b < W.heap.size := by
        rw [add_at, add_at] at c0
        exact World.block_lt_of_cell? W _ c0
      have hch := fun (i : Fin n) => hget i.val i.isLt
      have hc : ∃ f : Fin n → Int × Int, ∀ i : Fin n, (W.cell? (((⟨b, off, none⟩ : Addr).add (i.val * 2)).add 0) = some (.int .i64 (f i).1) ∧ W.cell? (((⟨b, off, none⟩ : Addr).add (i.val * 2)).add 1) = some (.int .i64 (f i).2)) ∧ fits64 (f i).1 ∧ fits64 (f i).2 := ⟨fun i => (hch i).choose, fun i => (hch i).choose_spec⟩
      obtain ⟨f, hf'⟩ := hc
      refine ⟨_, n, cap, List.ofFn f, rfl, by simp, ⟨by simp; omega, .inr ⟨b, off, rfl, by simpa using hl, hb, fun j hj => ?_⟩⟩, fun q hq => ?_⟩
      · have := (hf' ⟨j, by simpa using hj⟩).1
        rw [add_at, add_at, add_at] at this
        simpa using this
      · obtain ⟨i, rfl⟩ := List.mem_ofFn.1 hq
        exact (hf' i).2
end V
end Go.Proofs.YtonhmjfopidacaaDoor
