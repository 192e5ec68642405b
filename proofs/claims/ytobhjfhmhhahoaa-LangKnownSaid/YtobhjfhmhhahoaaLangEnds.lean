/- lang's machine: ends, walked. -/
import Derived.Test.YtobhjfhmhhahoaaLangStep
import Derived.Test.YtobhjfhmhhahoaaHold
import Derived.Test.YtobhjfhmhhahoaaFree
namespace Go.Proofs.Ytobhjfhmhhahoaa
namespace K
set_option maxRecDepth 100000
open Go.RowKit
/-- append of one number: into the same block, or into a new one -/
theorem wpList_append_nat_fresh {ops : Array Oper} {rest : List Oper} {o : Oper} {a : Act} {w : World} {Q : Exit → Act → World → Prop} (hgd : o.guard = none) (s x : Operand)
    (ho : o.op = .call { callee := .builtin .append, args := #[s, x], argTypes := #[33, 33] }) (base : Nat) (v : Value) (n : Nat) (xs : List Value) (hs : a.eval s = v)
    (hown : w.ownsRow base 3 1 v n xs) (b : Nat) (z : Int) (hx : a.eval x = .slice (some ⟨b, 0, none⟩) 1 1) (hc : w.cell? ⟨b, 0, none⟩ = some (.int .i64 z)) (hn : n < 1000000000000) (hbase : base ≤ w.heap.size)
    (h : ∀ v' w', w'.ownsRow base 3 1 v' (n + 1) (xs ++ [.int .i64 z]) → w.grownBy w' v.ownBlock → (v'.ownBlock = v.ownBlock ∨ ∃ g', v'.ownBlock = some g' ∧ w.heap.size ≤ g') → wpList Try.prog ops Q rest (a.put o.dst v') w') : wpList Try.prog ops Q (o :: rest) a w := by
  obtain ⟨i0, hi, hz0, hz1, hz2⟩ := info_parts info_intn
  have hnews : ∀ (j : Nat) (u : Value), [Value.int .i64 z][j]? = some u → w.cell? ((⟨b, 0, none⟩ : Addr).add j) = some u := by
    intro j u hj
    cases j with
    | zero => injection hj with e; subst e; rw [addr_at]; exact hc
    | succ j => simp at hj
  have h1 : ∀ u ∈ [Value.int .i64 z], u.oneCell' = true := fun u hu => by rw [List.mem_singleton] at hu; subst hu; rfl
  obtain ⟨v', w', hr, h2, h3, _⟩ := run_append_own (P := Try.prog) w base 33 o.type 3 i0 (.int .i64 0) 1 8 Try.underlying33 hi hz0 hz1 hz2 rfl (by decide) v n xs hown ⟨b, 0, none⟩ 1 1 [.int .i64 z] rfl hnews h1 (by unfold maxLen; omega) (by omega) hbase
  have hfresh : v'.ownBlock = v.ownBlock ∨ ∃ g', v'.ownBlock = some g' ∧ w.heap.size ≤ g' := by
    rcases hown.2 with ⟨rfl, h0⟩ | ⟨g, cap, cur, rfl, _, hg, hnc, hcm, hcs, _⟩
    · subst h0
      obtain ⟨v2, w2, hr2, h4, _, _⟩ := run_append_own (P := Try.prog) w w.heap.size 33 o.type 3 i0 (.int .i64 0) 1 8 Try.underlying33 hi hz0 hz1 hz2 rfl (by decide) (.slice none 0 0) 0 [] ⟨rfl, .inl ⟨rfl, rfl⟩⟩ ⟨b, 0, none⟩ 1 1 [.int .i64 z] rfl hnews h1 (by unfold maxLen; omega) (by omega) (Nat.le_refl _)
      rw [hr] at hr2
      injection hr2 with e1 _
      subst e1
      rcases h4.2 with ⟨_, h5⟩ | ⟨g, cap, cur, rfl, hge, _⟩
      · omega
      · exact .inr ⟨g, rfl, hge⟩
    · by_cases hroom : n + 1 ≤ cap
      · have hr2 := run_append_room (P := Try.prog) w 33 o.type 3 i0 Try.underlying33 hi g n cap cur hg ⟨b, 0, none⟩ 1 1 [.int .i64 z] (by rw [hz1]; rfl) hnews h1 hroom (by rw [hz1, hcs]; simp; omega)
        rw [hr] at hr2
        injection hr2 with e _
        rw [e]
        exact .inl rfl
      · have hr2 := run_append_grow (P := Try.prog) w 33 o.type 3 i0 (.int .i64 0) Try.underlying33 hi hz0 ⟨g, 0, none⟩ n cap xs (by rw [hown.1, hz1]) (hown.cells (g := g) rfl) ⟨b, 0, none⟩ 1 1 [.int .i64 z] (by rw [hz1]; rfl) hnews (by omega) (by omega) (growslice_fits (by omega) (by rw [hz2]; omega))
        rw [hr] at hr2
        injection hr2 with e _
        rw [e]
        exact .inr ⟨_, rfl, Nat.le_refl _⟩
  refine wpList_plain hgd fun _ hK => ?_
  unfold Oper.wp execOp
  simp only [ho, resolve, invoke, builtin, Sem.run_bind, Sem.run_pure, Result.andThen_ok, List.map_toArray, List.map_cons, List.map_nil, hs, hx, hr]
  exact hK _ _ (h v' w' h2 h3 hfresh)
/-- two values own no block in common -/
def apartV (v u : Value) : Prop := ∀ g, v.ownBlock = some g → u.ownBlock ≠ some g
theorem owns_apart {B : Nat} {w w' : World} {e : TypeId} {size : Nat} {v u : Value} {n : Nat} {xs : List Value} (h : w.ownsRow B e size v n xs) (hg : w.grownBy w' u.ownBlock) (ha : apartV v u) : w'.ownsRow B e size v n xs := by
  obtain ⟨h1, h2 | ⟨g, cap, cur, hv, hgB, hblk, hr⟩⟩ := h
  · exact ⟨h1, .inl h2⟩
  · refine ⟨h1, .inr ⟨g, cap, cur, hv, hgB, ?_, hr⟩⟩
    rw [hg.block g (lt_of_block hblk) (fun e1 => ?_)]
    · exact hblk
    · subst hv
      exact ha g rfl e1.symm
theorem owns_block_lt {B : Nat} {w : World} {e : TypeId} {size : Nat} {v : Value} {n : Nat} {xs : List Value} (h : w.ownsRow B e size v n xs) {g : Nat} (hg : v.ownBlock = some g) : B ≤ g ∧ g < w.heap.size := by
  rcases h.2 with ⟨rfl, _⟩ | ⟨g', cap, cur, rfl, hB, hblk, _⟩
  · cases hg
  · injection hg with hg
    simp only at hg
    subst hg
    exact ⟨hB, lt_of_block hblk⟩
/-- what the loop holds: the result's list, the crowd in its box, what is still to come -/
def EndsRel (S : List St) (l : List Nat) (L : List Nat) (w : World) (bx : Nat) (v : Value) (i : Nat) (wr : World) : Prop :=
  ∃ (res : List Nat) (c : List Nat × List Bool) (vl vi : Value), i ≤ l.length ∧ res ++ endsM S (l.drop i) i c = L ∧ CrOk S.length c ∧ res.length ≤ i ∧
    wr.ownsRow w.heap.size 3 1 v res.length (natsV res) ∧ wr.heap[bx]? = some (.cells #[vl, vi] 61) ∧ CrowdV w.heap.size wr vl vi c ∧ apartV vl v ∧ Below w.heap.size w wr
def NatRow (L : List Nat) (w : World) (e : Ending) (w' : World) : Prop := ∃ v, e = .returned v ∧ w'.ownsRow w.heap.size 3 1 v L.length (natsV L) ∧ Below w.heap.size w w'
theorem step_ok {S : List St} (hw : StWf S.length S) {c : List Nat × List Bool} (h : CrOk S.length c) (b : Nat) : CrOk S.length (stepM S c b) := (half_fold hw (b := b) c.1 (fun _ hq => crowd_lt h hq)).ok
theorem ends_next {S : List St} {l L : List Nat} {w wq wd wn : World} {bx j : Nat} {v vl vi vl2 vi2 : Value} {res : List Nat} {c : List Nat × List Bool} {x : Nat}
    (hrl : res.length ≤ j + 1) (hown : wq.ownsRow w.heap.size 3 1 v res.length (natsV res)) (hbl : Below w.heap.size w wq) (hd : Below wq.heap.size wq wd) (hbx : wd.heap[bx]? = some (.cells #[vl, vi] 61)) (hbxB : w.heap.size ≤ bx)
    (hv2 : CrowdV wd.heap.size wn vl2 vi2 (stepM S c x)) (hb2 : Below wd.heap.size wd wn) (heq : res ++ endsM S (l.drop (j + 1)) (j + 1) (stepM S c x) = L) (hj : j < l.length) (hok : CrOk S.length (stepM S c x)) :
    EndsRel S l L w bx v (j + 1) ((wn.setCell ⟨bx, 0, none⟩ vl2).setCell ⟨bx, 1, none⟩ vi2) := by
  have hbn : wn.heap[bx]? = some (.cells #[vl, vi] 61) := (hb2.block _ (lt_of_block hbx)).trans hbx
  have h1 := heap_set hbn 0 vl2
  have h2 := heap_set h1 1 vi2
  have hon := owns_below (owns_below hown hd) hb2
  have hbd : w.heap.size ≤ wd.heap.size := Nat.le_trans hbl.size hd.size
  refine ⟨res, stepM S c x, vl2, vi2, hj, heq, hok, hrl, owns_other (owns_other hon (p := ⟨bx, 0, none⟩) hbn (by decide) _) (p := ⟨bx, 1, none⟩) h1 (by decide) _, h2, ⟨?_, ?_⟩, ?_, ?_⟩
  · exact owns_mono (owns_other (owns_other hv2.1 (p := ⟨bx, 0, none⟩) hbn (by decide) _) (p := ⟨bx, 1, none⟩) h1 (by decide) _) hbd
  · exact owns_mono (owns_other (owns_other hv2.2 (p := ⟨bx, 0, none⟩) hbn (by decide) _) (p := ⟨bx, 1, none⟩) h1 (by decide) _) hbd
  · intro g hg1 hg2
    have e1 := (owns_block_lt hv2.1 hg1).1
    have e2 := (owns_block_lt (owns_below hown hd) hg2).2
    omega
  · exact (((hbl.trans (hd.mono hbl.size)).trans (hb2.mono hbd)).setCell hbxB _).setCell hbxB _
theorem ends_stop {S : List St} {r res L : List Nat} {j : Nat} {c : List Nat × List Bool} (heq : res ++ endsM S r j c = L) (hc : c.1 = []) : res = L := by
  cases r with
  | nil => rw [endsM, if_pos hc, List.append_nil] at heq; exact heq
  | cons b r => rw [endsM, if_pos hc, List.append_nil] at heq; exact heq
theorem ends_on {S : List St} {l res L : List Nat} {j : Nat} {c : List Nat × List Bool} (heq : res ++ endsM S (l.drop j) j c = L) (hc : c.1 ≠ []) (hj : j < l.length) : (res ++ if c.2[0]? = some true then [j] else []) ++ endsM S (l.drop (j + 1)) (j + 1) (stepM S c l[j]) = L := by
  rw [List.drop_eq_getElem_cons hj, endsM, if_neg hc] at heq
  rw [List.append_assoc]; exact heq
theorem ends_last {S : List St} {l res L : List Nat} {j : Nat} {c : List Nat × List Bool} (heq : res ++ endsM S (l.drop j) j c = L) (hc : c.1 ≠ []) (hj : j = l.length) : (res ++ if c.2[0]? = some true then [j] else []) = L := by
  subst hj
  rw [List.drop_length, endsM, if_neg hc] at heq
  exact heq
theorem ends_start {S : List St} {l L : List Nat} {w w2 w3 : World} {bx i q : Nat} (hL : L = endsM S (l.drop i) i (startM S q)) (hi : i ≤ l.length) (hc : CrowdAt w.heap.size w3 bx (startM S q)) (hok : CrOk S.length (startM S q)) (hb : Below w.heap.size w w2) (hf : Fr crT w.heap.size w2 w3) : EndsRel S l L w bx (.slice none 0 0) i w3 := by
  obtain ⟨h1, vl, vi, h2, h3⟩ := hc
  exact ⟨[], startM S q, vl, vi, hi, by rw [hL]; rfl, hok, Nat.zero_le _, ⟨rfl, .inl ⟨rfl, rfl⟩⟩, h2, h3, (fun g _ h => by cases h), hb.trans hf.below⟩
set_option maxHeartbeats 4000000 in
theorem ends_walk {A m q : Nat} {S : List St} (hw : StWf S.length S) (hS : S.length ≤ 100000) (h0 : 0 < S.length) (hq : q < S.length) {w : World} (hm : MachAt A w m S q) {a : Option Addr} {n cap : Nat} {l : List Nat} (hl : BytesAt w a n cap l) (hl2 : l.length ≤ 100000) (i : Nat) (hi : i ≤ l.length) :
    Calls Try.prog 23 #[.pointer (some ⟨m, 0, none⟩), .slice a n cap, .int .i64 (i : Int)] w (NatRow (endsM S (l.drop i) i (startM S q)) w) := by
  obtain ⟨L, hL⟩ : ∃ L, L = endsM S (l.drop i) i (startM S q) := ⟨_, rfl⟩
  rw [← hL]
  have HL := Lib.hid hL
  clear hL
  obtain ⟨hn, hlt, hmax, hcells⟩ := hl
  have Hn := Lib.hid hn
  have Hcells := Lib.hid hcells
  have Hlt := Lib.hid hlt
  have Hm := Lib.hid hm
  have Hno := Lib.hid (nowhere_walk hm h0 hS)
  clear hn hcells hlt hm
  go_enter Try.func23, Try.ntmps23
  go_wp2_with fail
  refine Hno.out.mono ?_
  rintro e w1 ⟨vi1, rfl, hc1, hb1⟩
  obtain ⟨ja, jcap, hvi1⟩ := owns_form hc1.2
  subst hvi1
  have hlen1 : (noCrowd S.length).2.length = S.length := by simp [noCrowd]
  rw [hlen1] at hc1 ⊢
  have hz1 : w.heap.size ≤ w1.heap.size := hb1.size
  have HC1 := Lib.hid hc1
  have HB1 := Lib.hid hb1
  clear hc1 hb1 hlen1 Hno
  go_upto_region 3 with fail
  -- the start
  have hbox0 := World.alloc_heap_new w1 (.cells #[.slice none 0 0, .slice ja S.length jcap] 61)
  have hc2 : CrowdAt w.heap.size (w1.alloc (.cells #[.slice none 0 0, .slice ja S.length jcap] 61)) w1.heap.size (noCrowd S.length) := by
    have hcv := HC1.out
    exact ⟨hz1, _, _, hbox0, ⟨by simp [natsV, noCrowd], .inl ⟨rfl, rfl⟩⟩, hcv.2.alloc _⟩
  have hb2 : Below w.heap.size w (w1.alloc (.cells #[.slice none 0 0, .slice ja S.length jcap] 61)) := HB1.out.alloc hz1 _
  have hm2 := Hm.out.below (hb2.mono (Nat.le_refl _))
  have hz2 : w.heap.size ≤ (w1.alloc (.cells #[.slice none 0 0, .slice ja S.length jcap] 61)).heap.size := hb2.size
  have hst := enter_walk hw hS (S.length + 1) (noCrowd S.length) q _ hm2 hc2 (noCrowd_ok _) hq (by have := off_le (noCrowd S.length).2; rw [(noCrowd_ok _).len] at this; omega) hz2
  have hm1 : (w1.alloc (.cells #[.slice none 0 0, .slice ja S.length jcap] 61)).cell? ⟨m, 1, none⟩ = some (.int .i64 (q : Int)) := by
    obtain ⟨sb, scap, g0, g1, _⟩ := hm2.open h0
    exact g1
  have hsok : CrOk S.length (startM S q) := (start_is hw hq).ok
  have Hst := Lib.hid hst
  have Hb2 := Lib.hid hb2
  have Hsok := Lib.hid hsok
  have HbxB := Lib.hid hz1
  clear hbox0 hc2 hm2 hst hb2 hsok HC1 HB1 hz2
  generalize w1.alloc (.cells #[.slice none 0 0, .slice ja S.length jcap] 61) = w2 at *
  go_wp2_with fail
  refine Hst.out.mono ?_
  rintro e w3 ⟨rfl, hc3, hf3⟩
  have Hrel0 := Lib.hid (ends_start HL.out hi hc3 Hsok.out Hb2.out hf3)
  clear hc3 hf3 Hst hm1
  go_wp2_with fail
  go_loopw [7, 9] (fun v x wr => ∃ j : Nat, x = .int .i64 j ∧ EndsRel S l L w w1.heap.size v j wr) (fun _ x _ => l.length - (intOf x).toNat)
  case atStart => exact ⟨i, rfl, Hrel0.out⟩
  case round =>
    obtain ⟨j, rfl, res, c, vl, vi, hj, heq, hok, hrl, hown, hbx, hcv, hap, hbl⟩ := hrel
    obtain ⟨va, vcap, hq7⟩ := owns_form hown
    obtain ⟨la, lcap, hq8⟩ := owns_form hcv.1
    obtain ⟨ia, icap, hq9⟩ := owns_form hcv.2
    subst hq7 hq8 hq9
    obtain ⟨wo, rfl⟩ : ∃ wo : World, wo = wr := ⟨_, rfl⟩
    have k0 : wo.cell? ⟨w1.heap.size, 0, none⟩ = some (.slice la c.1.length lcap) := by rw [cells_at hbx]; rfl
    have k1 : wo.cell? ⟨w1.heap.size, 1, none⟩ = some (.slice ia c.2.length icap) := by rw [cells_at hbx]; rfl
    have hwo : w.heap.size ≤ wo.heap.size := hbl.size
    have hcl : c.1.length ≤ S.length := by have := hok.cnt; omega
    by_cases hc0 : c.1 = []
    · have hfin := ends_stop heq hc0
      subst hfin
      have hz0 : decide ((c.1.length : Int) > 0) = false := by rw [hc0]; rfl
      have hz0' : decide ((0 : Int) < (c.1.length : Int)) = false := by rw [hc0]; rfl
      have hz0'' : decide (0 < c.1.length) = false := by rw [hc0]; rfl
      have Hown := Lib.hid hown
      have Hbl := Lib.hid hbl
      clear heq hok hown hbx hcv hap hbl hc0
      go_wp2_with fail
      go_ret
      exact ⟨_, rfl, Hown.out, Hbl.out⟩
    · have hpos : 0 < c.1.length := List.length_pos_iff.2 hc0
      have hz0 : decide ((c.1.length : Int) > 0) = true := by simp; omega
      have hz0' : decide ((0 : Int) < (c.1.length : Int)) = true := by simp; omega
      have hz0'' : decide (0 < c.1.length) = true := by simp; omega
      have hil : c.2.length = S.length := hok.len
      obtain ⟨ib, icap2, hqi, _, hib, hicap, himax, hmget, _, _⟩ := marks_open hcv.2 (by omega)
      injection hqi with e1 e2 e3
      subst e1 e3
      have hlt0 : 0 < c.2.length := by omega
      have hm0 := hmget 0 (c.2[0]'hlt0) (List.getElem?_eq_getElem hlt0)
      have hil0 : decide (0 < c.2.length) = true := by simp; omega
      have hil1 : decide ((0 : Int) < (c.2.length : Int)) = true := by simp; omega
      have hmk : c.2[0]? = some (c.2[0]'hlt0) := List.getElem?_eq_getElem hlt0
      clear hil
      have hon := fun hj : j < l.length => ends_on heq hc0 hj
      have hla := fun hj : j = l.length => ends_last heq hc0 hj
      rw [hmk] at hon hla
      have Hon := Lib.hid hon
      have Hla := Lib.hid hla
      have Hok := Lib.hid hok
      have Hcv := Lib.hid hcv
      have Hap := Lib.hid hap
      have Hbx := Lib.hid hbx
      have Hown := Lib.hid hown
      have Hbl := Lib.hid hbl
      clear heq hok hown hbx hcv hap hbl hc0 hon hla hmk hmget e2
      generalize c.2[0]'hlt0 = mk at *
      by_cases hmt : mk = true
      · subst hmt
        by_cases hjl' : j = l.length
        · have hjn : ((j : Int) == (n : Int)) = true := by rw [Hn.out, hjl']; simp
          have hLe := Hla.out hjl'
          clear hjl'
          simp only [if_true] at hLe
          clear Hon Hla
          go_wp2_with (first
            | (refine wpList_append_nat_fresh rfl _ _ rfl w.heap.size (.slice va res.length vcap) res.length (natsV res) rfl (Hown.out.alloc _) wo.heap.size (j : Int) rfl (by rw [cells_at (World.alloc_heap_new wo _)]; rfl) (by omega) (by simp; omega) ?_
               intro v2 wa hown2 hgrow hfr
               obtain ⟨va2, vcap2, hq10⟩ := owns_form hown2
               subst hq10
               have Hown2 := Lib.hid hown2
               have Hgrow := Lib.hid hgrow
               have Hfr := Lib.hid hfr
               have hbxa := block_kept ((Below.heap_alloc wo _ _ (lt_of_block Hbx.out)).trans Hbx.out) (Hown.out.alloc _) hgrow (by decide)
               have ka0 : wa.cell? ⟨w1.heap.size, 0, none⟩ = some (.slice la c.1.length lcap) := by rw [cells_at hbxa]; rfl
               have ka1 : wa.cell? ⟨w1.heap.size, 1, none⟩ = some (.slice (some ⟨ib, 0, none⟩) c.2.length icap) := by rw [cells_at hbxa]; rfl
               clear hown2 hgrow hfr hbxa))
          go_ret
          refine ⟨_, rfl, ?_, (Hbl.out.alloc hwo _).grown Hgrow.out (by simp; omega) (fun k hk => (owns_block_lt Hown.out hk).1)⟩
          rw [← hLe, List.length_append, natsV_snoc]
          exact Hown2.out
        · have hjl : j < l.length := by omega
          have hjn' : ((j : Int) == (n : Int)) = false := by rw [Hn.out]; simp; omega
          have heq := Hon.out hjl
          simp only [if_true] at heq
          clear Hon Hla
          have Heq := Lib.hid heq
          clear heq
          go_upto_region 10 with (first
            | (refine wpList_append_nat_fresh rfl _ _ rfl w.heap.size (.slice va res.length vcap) res.length (natsV res) rfl (Hown.out.alloc _) wo.heap.size (j : Int) rfl (by rw [cells_at (World.alloc_heap_new wo _)]; rfl) (by omega) (by simp; omega) ?_
               intro v2 wa hown2 hgrow hfr
               obtain ⟨va2, vcap2, hq10⟩ := owns_form hown2
               subst hq10
               have Hown2 := Lib.hid hown2
               have Hgrow := Lib.hid hgrow
               have Hfr := Lib.hid hfr
               have hbxa := block_kept ((Below.heap_alloc wo _ _ (lt_of_block Hbx.out)).trans Hbx.out) (Hown.out.alloc _) hgrow (by decide)
               have ka0 : wa.cell? ⟨w1.heap.size, 0, none⟩ = some (.slice la c.1.length lcap) := by rw [cells_at hbxa]; rfl
               have ka1 : wa.cell? ⟨w1.heap.size, 1, none⟩ = some (.slice (some ⟨ib, 0, none⟩) c.2.length icap) := by rw [cells_at hbxa]; rfl
               clear hown2 hgrow hfr hbxa))
          have hown3 : wa.ownsRow w.heap.size 3 1 (.slice va2 (res.length + 1) vcap2) (res ++ [j]).length (natsV (res ++ [j])) := by rw [List.length_append, natsV_snoc]; exact Hown2.out
          have hbl3 : Below w.heap.size w wa := (Hbl.out.alloc hwo _).grown Hgrow.out (by simp; omega) (fun k hk => (owns_block_lt Hown.out hk).1)
          have hbx3 := block_kept ((Below.heap_alloc wo (.cells #[.int .i64 (j : Int)] 3) _ (lt_of_block Hbx.out)).trans Hbx.out) (Hown.out.alloc _) Hgrow.out (by decide)
          have hcv3 : CrowdV w.heap.size wa (.slice la c.1.length lcap) (.slice (some ⟨ib, 0, none⟩) c.2.length icap) c := ⟨owns_apart (Hcv.out.1.alloc _) Hgrow.out Hap.out, owns_kept (Hcv.out.2.alloc _) (Hown.out.alloc _) Hgrow.out (by decide)⟩
          have hrl3 : (res ++ [j]).length ≤ j + 1 := by simp; omega
          have hwo3 := hbl3.size
          clear ka0 ka1 Hown Hbl Hbx Hcv Hown2 Hgrow Hfr Hap hm0 k0 k1 hwo hrl
          have Hown := Lib.hid hown3
          have Hbl := Lib.hid hbl3
          have Hbx := Lib.hid hbx3
          have Hcv := Lib.hid hcv3
          have Hrl := Lib.hid hrl3
          clear hown3 hbl3 hbx3 hcv3 hrl3
          -- the byte that is read
          rcases Hcells.out with h | ⟨sb, soff, ha, hcap, hsw, hsget⟩
          · exact absurd h (by rw [Hn.out]; omega)
          subst ha
          have hdn : j < n := by rw [Hn.out]; exact hjl
          obtain ⟨wd, hwd⟩ : ∃ wd, wd = wa.drew := ⟨_, rfl⟩
          have hqd : Below wa.heap.size wa wd := by rw [hwd]; exact (Below.refl _ _).drew
          have hsd : wd.heap.size = wa.heap.size := by rw [hwd]; rfl
          have hbd := Hbl.out.trans (hqd.mono Hbl.out.size)
          have hbxd := (hqd.block _ (lt_of_block Hbx.out)).trans Hbx.out
          have hcvd := Hcv.out.below hqd
          have hownd := owns_below Hown.out hqd
          have d0 : wd.cell? ⟨w1.heap.size, 0, none⟩ = some (.slice la c.1.length lcap) := by rw [cells_at hbxd]; rfl
          have d1 : wd.cell? ⟨w1.heap.size, 1, none⟩ = some (.slice (some ⟨ib, 0, none⟩) c.2.length icap) := by rw [cells_at hbxd]; rfl
          have hx : l.getD j 0 = l[j] := by rw [List.getD_eq_getElem?_getD, List.getElem?_eq_getElem hjl]; rfl
          have ds : wd.cell? ⟨sb, soff + j, none⟩ = some (.int .u8 (l[j] : Int)) := by
            rw [hbd.cell (p := ⟨sb, soff + j, none⟩) hsw, hsget j (by rw [Hn.out]; exact hjl), hx]; rfl
          have Hstep := Lib.hid (step_walk hw hS h0 (Hm.out.below (hbd.mono (Nat.le_refl _))) hcvd Hok.out l[j] (Hlt.out _ (List.getElem_mem hjl)))
          have Hd := Lib.hid hqd
          have Hbxd := Lib.hid hbxd
          have Hlt2 := Lib.hid Hlt.out
          have hjn : j < l.length := hjl
          clear hqd hbd hbxd hcvd hownd hx hsget hsd
          go_wp2_with fail
          refine wp_region_free (.plain 0 (.plain 2 (.plain 3 (.plain 4 (.fork 1 (.sole 5 (.sole 6 (.sole 7 .done))) 5 (.sole 1 (.sole 6 (.sole 7 .done)))))))) (by kernel_rfl) (by kernel_rfl) (fun c a d v w h => by cases d <;> exact h) ?_
          rw [← hwd]
          clear hwd
          iterate 4
            refine' free_plain ?_ ?_ (fun K hK => ?_)
            rotate_left 1
            · simp only [List.getElem?_toArray, List.getElem?_cons_zero, List.getElem?_cons_succ]; exact rfl
            · exact rfl
            go_big_quiet_op
            refine hK _ ?_
            clear hK K
            try simp only [Act.put, List.setIfInBounds_toArray, List.set_cons_zero, List.set_cons_succ]
          refine free_fork ?_ ?_
          · refine' free_step ?_ ?_ (fun K hK => ?_)
            rotate_left 1
            · simp only [List.getElem?_toArray, List.getElem?_cons_zero, List.getElem?_cons_succ]; exact rfl
            · exact rfl
            unfold Oper.wp execOp
            go_simp
            refine hK _ _ ?_
            clear hK K
            try simp only [Act.put, List.setIfInBounds_toArray, List.set_cons_zero, List.set_cons_succ]
            refine' free_sole ?_ ?_ (fun K hK => ?_)
            rotate_left 1
            · simp only [List.getElem?_toArray, List.getElem?_cons_zero, List.getElem?_cons_succ]; exact rfl
            · exact rfl
            unfold Oper.wp execOp
            go_simp
            refine hK _ _ ?_
            clear hK K
            try simp only [Act.put, List.setIfInBounds_toArray, List.set_cons_zero, List.set_cons_succ]
            refine' free_sole ?_ ?_ (fun K hK => ?_)
            rotate_left 1
            · simp only [List.getElem?_toArray, List.getElem?_cons_zero, List.getElem?_cons_succ]; exact rfl
            · exact rfl
            go_simp
            refine (Hstep.out).mono ?_
            rintro e wn ⟨vl2, vi2, rfl, hv2, hb2⟩
            refine hK _ _ ?_
            obtain ⟨la2, lcap2, hq1⟩ := owns_form hv2.1
            obtain ⟨ia2, icap2, hq2⟩ := owns_form hv2.2
            subst hq1 hq2
            have hbx2 := (hb2.block _ (lt_of_block Hbxd.out)).trans Hbxd.out
            have k0 : wn.cell? ⟨w1.heap.size, 0, none⟩ = some (.slice la c.1.length lcap) := by rw [cells_at hbx2]; rfl
            have k1 : wn.cell? ⟨w1.heap.size, 1, none⟩ = some (.slice (some ⟨ib, 0, none⟩) c.2.length icap) := by rw [cells_at hbx2]; rfl
            have kf : ∀ o, wn.frozen? ⟨w1.heap.size, o, none⟩ = false := fun o => by simp [World.frozen?, hbx2]
            have Hbx2 := Lib.hid hbx2
            have Hv2 := Lib.hid hv2
            have Hb2 := Lib.hid hb2
            clear hbx2 hv2 hb2 d0 d1 ds
            clear hK K
            try simp only [Act.put, List.setIfInBounds_toArray, List.set_cons_zero, List.set_cons_succ]
            refine' free_sole ?_ ?_ (fun K hK => ?_)
            rotate_left 1
            · simp only [List.getElem?_toArray, List.getElem?_cons_zero, List.getElem?_cons_succ]; exact rfl
            · exact rfl
            unfold Oper.wp execOp
            go_simp
            refine hK _ _ ?_
            clear hK K
            try simp only [Act.put, List.setIfInBounds_toArray, List.set_cons_zero, List.set_cons_succ]
            refine free_done ?_
            go_wp2_with fail
            have Hfin := Lib.hid (ends_next Hrl.out Hown.out Hbl.out Hd.out Hbxd.out HbxB.out Hv2.out Hb2.out Heq.out hjn (step_ok hw Hok.out l[j]))
            go_roundw
            case rel => exact ⟨j + 1, by go_num, Hfin.out⟩
            case measure => simp [intOf]; omega
          · refine' free_step ?_ ?_ (fun K hK => ?_)
            rotate_left 1
            · simp only [List.getElem?_toArray, List.getElem?_cons_zero, List.getElem?_cons_succ]; exact rfl
            · exact rfl
            unfold Oper.wp execOp
            go_simp
            refine hK _ _ ?_
            clear hK K
            try simp only [Act.put, List.setIfInBounds_toArray, List.set_cons_zero, List.set_cons_succ]
            refine' free_sole ?_ ?_ (fun K hK => ?_)
            rotate_left 1
            · simp only [List.getElem?_toArray, List.getElem?_cons_zero, List.getElem?_cons_succ]; exact rfl
            · exact rfl
            unfold Oper.wp execOp
            go_simp
            refine hK _ _ ?_
            clear hK K
            try simp only [Act.put, List.setIfInBounds_toArray, List.set_cons_zero, List.set_cons_succ]
            refine' free_sole ?_ ?_ (fun K hK => ?_)
            rotate_left 1
            · simp only [List.getElem?_toArray, List.getElem?_cons_zero, List.getElem?_cons_succ]; exact rfl
            · exact rfl
            go_simp
            refine (Hstep.out).mono ?_
            rintro e wn ⟨vl2, vi2, rfl, hv2, hb2⟩
            refine hK _ _ ?_
            obtain ⟨la2, lcap2, hq1⟩ := owns_form hv2.1
            obtain ⟨ia2, icap2, hq2⟩ := owns_form hv2.2
            subst hq1 hq2
            have hbx2 := (hb2.block _ (lt_of_block Hbxd.out)).trans Hbxd.out
            have k0 : wn.cell? ⟨w1.heap.size, 0, none⟩ = some (.slice la c.1.length lcap) := by rw [cells_at hbx2]; rfl
            have k1 : wn.cell? ⟨w1.heap.size, 1, none⟩ = some (.slice (some ⟨ib, 0, none⟩) c.2.length icap) := by rw [cells_at hbx2]; rfl
            have kf : ∀ o, wn.frozen? ⟨w1.heap.size, o, none⟩ = false := fun o => by simp [World.frozen?, hbx2]
            have Hbx2 := Lib.hid hbx2
            have Hv2 := Lib.hid hv2
            have Hb2 := Lib.hid hb2
            clear hbx2 hv2 hb2 d0 d1 ds
            clear hK K
            try simp only [Act.put, List.setIfInBounds_toArray, List.set_cons_zero, List.set_cons_succ]
            refine' free_sole ?_ ?_ (fun K hK => ?_)
            rotate_left 1
            · simp only [List.getElem?_toArray, List.getElem?_cons_zero, List.getElem?_cons_succ]; exact rfl
            · exact rfl
            unfold Oper.wp execOp
            go_simp
            refine hK _ _ ?_
            clear hK K
            try simp only [Act.put, List.setIfInBounds_toArray, List.set_cons_zero, List.set_cons_succ]
            refine free_done ?_
            go_wp2_with fail
            have Hfin := Lib.hid (ends_next Hrl.out Hown.out Hbl.out Hd.out Hbxd.out HbxB.out Hv2.out Hb2.out Heq.out hjn (step_ok hw Hok.out l[j]))
            go_roundw
            case rel => exact ⟨j + 1, by go_num, Hfin.out⟩
            case measure => simp [intOf]; omega
      · obtain rfl : mk = false := by cases mk with | true => exact absurd rfl hmt | false => rfl
        by_cases hjl' : j = l.length
        · have hjn : ((j : Int) == (n : Int)) = true := by rw [Hn.out, hjl']; simp
          have hLe := Hla.out hjl'
          clear hjl'
          simp only [Option.some.injEq, Bool.false_eq_true, if_false, List.append_nil] at hLe
          clear Hon Hla
          subst hLe
          go_wp2_with fail
          go_ret
          exact ⟨_, rfl, Hown.out, Hbl.out⟩
        · have hjl : j < l.length := by omega
          have hjn' : ((j : Int) == (n : Int)) = false := by rw [Hn.out]; simp; omega
          have heq := Hon.out hjl
          simp only [Option.some.injEq, Bool.false_eq_true, if_false, List.append_nil] at heq
          clear Hon Hla
          have Heq := Lib.hid heq
          clear heq
          go_upto_region 10 with fail
          have Hrl := Lib.hid (Nat.le_succ_of_le hrl)
          clear k0 k1 hm0 Hap hrl
          -- the byte that is read
          rcases Hcells.out with h | ⟨sb, soff, ha, hcap, hsw, hsget⟩
          · exact absurd h (by rw [Hn.out]; omega)
          subst ha
          have hdn : j < n := by rw [Hn.out]; exact hjl
          obtain ⟨wd, hwd⟩ : ∃ wd, wd = wo.drew := ⟨_, rfl⟩
          have hqd : Below wo.heap.size wo wd := by rw [hwd]; exact (Below.refl _ _).drew
          have hsd : wd.heap.size = wo.heap.size := by rw [hwd]; rfl
          have hbd := Hbl.out.trans (hqd.mono Hbl.out.size)
          have hbxd := (hqd.block _ (lt_of_block Hbx.out)).trans Hbx.out
          have hcvd := Hcv.out.below hqd
          have hownd := owns_below Hown.out hqd
          have d0 : wd.cell? ⟨w1.heap.size, 0, none⟩ = some (.slice la c.1.length lcap) := by rw [cells_at hbxd]; rfl
          have d1 : wd.cell? ⟨w1.heap.size, 1, none⟩ = some (.slice (some ⟨ib, 0, none⟩) c.2.length icap) := by rw [cells_at hbxd]; rfl
          have hx : l.getD j 0 = l[j] := by rw [List.getD_eq_getElem?_getD, List.getElem?_eq_getElem hjl]; rfl
          have ds : wd.cell? ⟨sb, soff + j, none⟩ = some (.int .u8 (l[j] : Int)) := by
            rw [hbd.cell (p := ⟨sb, soff + j, none⟩) hsw, hsget j (by rw [Hn.out]; exact hjl), hx]; rfl
          have Hstep := Lib.hid (step_walk hw hS h0 (Hm.out.below (hbd.mono (Nat.le_refl _))) hcvd Hok.out l[j] (Hlt.out _ (List.getElem_mem hjl)))
          have Hd := Lib.hid hqd
          have Hbxd := Lib.hid hbxd
          have Hlt2 := Lib.hid Hlt.out
          have hjn : j < l.length := hjl
          clear hqd hbd hbxd hcvd hownd hx hsget hsd
          go_wp2_with fail
          refine wp_region_free (.plain 0 (.plain 2 (.plain 3 (.plain 4 (.fork 1 (.sole 5 (.sole 6 (.sole 7 .done))) 5 (.sole 1 (.sole 6 (.sole 7 .done)))))))) (by kernel_rfl) (by kernel_rfl) (fun c a d v w h => by cases d <;> exact h) ?_
          rw [← hwd]
          clear hwd
          iterate 4
            refine' free_plain ?_ ?_ (fun K hK => ?_)
            rotate_left 1
            · simp only [List.getElem?_toArray, List.getElem?_cons_zero, List.getElem?_cons_succ]; exact rfl
            · exact rfl
            go_big_quiet_op
            refine hK _ ?_
            clear hK K
            try simp only [Act.put, List.setIfInBounds_toArray, List.set_cons_zero, List.set_cons_succ]
          refine free_fork ?_ ?_
          · refine' free_step ?_ ?_ (fun K hK => ?_)
            rotate_left 1
            · simp only [List.getElem?_toArray, List.getElem?_cons_zero, List.getElem?_cons_succ]; exact rfl
            · exact rfl
            unfold Oper.wp execOp
            go_simp
            refine hK _ _ ?_
            clear hK K
            try simp only [Act.put, List.setIfInBounds_toArray, List.set_cons_zero, List.set_cons_succ]
            refine' free_sole ?_ ?_ (fun K hK => ?_)
            rotate_left 1
            · simp only [List.getElem?_toArray, List.getElem?_cons_zero, List.getElem?_cons_succ]; exact rfl
            · exact rfl
            unfold Oper.wp execOp
            go_simp
            refine hK _ _ ?_
            clear hK K
            try simp only [Act.put, List.setIfInBounds_toArray, List.set_cons_zero, List.set_cons_succ]
            refine' free_sole ?_ ?_ (fun K hK => ?_)
            rotate_left 1
            · simp only [List.getElem?_toArray, List.getElem?_cons_zero, List.getElem?_cons_succ]; exact rfl
            · exact rfl
            go_simp
            refine (Hstep.out).mono ?_
            rintro e wn ⟨vl2, vi2, rfl, hv2, hb2⟩
            refine hK _ _ ?_
            obtain ⟨la2, lcap2, hq1⟩ := owns_form hv2.1
            obtain ⟨ia2, icap2, hq2⟩ := owns_form hv2.2
            subst hq1 hq2
            have hbx2 := (hb2.block _ (lt_of_block Hbxd.out)).trans Hbxd.out
            have k0 : wn.cell? ⟨w1.heap.size, 0, none⟩ = some (.slice la c.1.length lcap) := by rw [cells_at hbx2]; rfl
            have k1 : wn.cell? ⟨w1.heap.size, 1, none⟩ = some (.slice (some ⟨ib, 0, none⟩) c.2.length icap) := by rw [cells_at hbx2]; rfl
            have kf : ∀ o, wn.frozen? ⟨w1.heap.size, o, none⟩ = false := fun o => by simp [World.frozen?, hbx2]
            have Hbx2 := Lib.hid hbx2
            have Hv2 := Lib.hid hv2
            have Hb2 := Lib.hid hb2
            clear hbx2 hv2 hb2 d0 d1 ds
            clear hK K
            try simp only [Act.put, List.setIfInBounds_toArray, List.set_cons_zero, List.set_cons_succ]
            refine' free_sole ?_ ?_ (fun K hK => ?_)
            rotate_left 1
            · simp only [List.getElem?_toArray, List.getElem?_cons_zero, List.getElem?_cons_succ]; exact rfl
            · exact rfl
            unfold Oper.wp execOp
            go_simp
            refine hK _ _ ?_
            clear hK K
            try simp only [Act.put, List.setIfInBounds_toArray, List.set_cons_zero, List.set_cons_succ]
            refine free_done ?_
            go_wp2_with fail
            have Hfin := Lib.hid (ends_next Hrl.out Hown.out Hbl.out Hd.out Hbxd.out HbxB.out Hv2.out Hb2.out Heq.out hjn (step_ok hw Hok.out l[j]))
            go_roundw
            case rel => exact ⟨j + 1, by go_num, Hfin.out⟩
            case measure => simp [intOf]; omega
          · refine' free_step ?_ ?_ (fun K hK => ?_)
            rotate_left 1
            · simp only [List.getElem?_toArray, List.getElem?_cons_zero, List.getElem?_cons_succ]; exact rfl
            · exact rfl
            unfold Oper.wp execOp
            go_simp
            refine hK _ _ ?_
            clear hK K
            try simp only [Act.put, List.setIfInBounds_toArray, List.set_cons_zero, List.set_cons_succ]
            refine' free_sole ?_ ?_ (fun K hK => ?_)
            rotate_left 1
            · simp only [List.getElem?_toArray, List.getElem?_cons_zero, List.getElem?_cons_succ]; exact rfl
            · exact rfl
            unfold Oper.wp execOp
            go_simp
            refine hK _ _ ?_
            clear hK K
            try simp only [Act.put, List.setIfInBounds_toArray, List.set_cons_zero, List.set_cons_succ]
            refine' free_sole ?_ ?_ (fun K hK => ?_)
            rotate_left 1
            · simp only [List.getElem?_toArray, List.getElem?_cons_zero, List.getElem?_cons_succ]; exact rfl
            · exact rfl
            go_simp
            refine (Hstep.out).mono ?_
            rintro e wn ⟨vl2, vi2, rfl, hv2, hb2⟩
            refine hK _ _ ?_
            obtain ⟨la2, lcap2, hq1⟩ := owns_form hv2.1
            obtain ⟨ia2, icap2, hq2⟩ := owns_form hv2.2
            subst hq1 hq2
            have hbx2 := (hb2.block _ (lt_of_block Hbxd.out)).trans Hbxd.out
            have k0 : wn.cell? ⟨w1.heap.size, 0, none⟩ = some (.slice la c.1.length lcap) := by rw [cells_at hbx2]; rfl
            have k1 : wn.cell? ⟨w1.heap.size, 1, none⟩ = some (.slice (some ⟨ib, 0, none⟩) c.2.length icap) := by rw [cells_at hbx2]; rfl
            have kf : ∀ o, wn.frozen? ⟨w1.heap.size, o, none⟩ = false := fun o => by simp [World.frozen?, hbx2]
            have Hbx2 := Lib.hid hbx2
            have Hv2 := Lib.hid hv2
            have Hb2 := Lib.hid hb2
            clear hbx2 hv2 hb2 d0 d1 ds
            clear hK K
            try simp only [Act.put, List.setIfInBounds_toArray, List.set_cons_zero, List.set_cons_succ]
            refine' free_sole ?_ ?_ (fun K hK => ?_)
            rotate_left 1
            · simp only [List.getElem?_toArray, List.getElem?_cons_zero, List.getElem?_cons_succ]; exact rfl
            · exact rfl
            unfold Oper.wp execOp
            go_simp
            refine hK _ _ ?_
            clear hK K
            try simp only [Act.put, List.setIfInBounds_toArray, List.set_cons_zero, List.set_cons_succ]
            refine free_done ?_
            go_wp2_with fail
            have Hfin := Lib.hid (ends_next Hrl.out Hown.out Hbl.out Hd.out Hbxd.out HbxB.out Hv2.out Hb2.out Heq.out hjn (step_ok hw Hok.out l[j]))
            go_roundw
            case rel => exact ⟨j + 1, by go_num, Hfin.out⟩
            case measure => simp [intOf]; omega
end K
end Go.Proofs.Ytobhjfhmhhahoaa
