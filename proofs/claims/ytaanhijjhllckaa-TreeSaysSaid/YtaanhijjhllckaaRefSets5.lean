/- The document's own sets, on nodes: a row of own sets that grows. -/
import Derived.Test.YtaanhijjhllckaaRefSame5
import Derived.Deep.DeepCutAuto
namespace Go.Proofs.Ytaanhijjhllckaa
set_option maxRecDepth 100000
open Go.RowKit
/-- what is no row of own sets stays -/
def KeepS (w w' : World) : Prop := ∀ (b : Nat) (o : Obj), w.heap[b]? = some o → (∀ cs fr, o ≠ .cells cs 33 fr) → w'.heap[b]? = some o
theorem KeepS.refl (w : World) : KeepS w w := fun _ _ h _ => h
theorem KeepS.trans {a b c : World} (h : KeepS a b) (h' : KeepS b c) : KeepS a c := fun k o hk ho => h' k o (h k o hk ho) ho
theorem KeepS.of_below {w w' : World} (h : Below w.heap.size w w') : KeepS w w' := fun k o hk _ => by rw [h.block k (Array.getElem?_eq_some_iff.1 hk).1]; exact hk
theorem ownsS_below {w w' : World} {B size n : Nat} {e : TypeId} {v : Value} {xs : List Value} (h : w.ownsRow B e size v n xs) (hb : Below w.heap.size w w') : w'.ownsRow B e size v n xs :=
  h.kept (row := some w.heap.size) ⟨hb.os, hb.tape, hb.output, hb.size, fun q hq _ => hb.block q hq⟩ (.inr fun e => by have := (h.lt _ e).2; omega)
theorem KeepS.grown {w w' : World} {B n : Nat} {v : Value} {xs : List Value} (h : w.ownsRow B 33 256 v n xs) (hg : w.grownBy w' v.ownBlock) : KeepS w w' := fun k o hk ho => by
  refine (hg.block k (Array.getElem?_eq_some_iff.1 hk).1 fun e => ?_).trans hk
  rcases h.2 with ⟨rfl, _⟩ | ⟨g, cap, cur, rfl, _, hblk, _⟩
  · cases e
  · have e2 : k = g := by injection e
    subst e2
    rw [hk] at hblk
    exact ho _ _ (Option.some.inj hblk)
theorem setsTo_len : ∀ (x : Nd) (acc : List (BitVec 256)), (x.setsTo acc).length ≤ acc.length + x.count := by
  refine fun x => Nd.rec (motive_1 := fun x => ∀ acc, (x.setsTo acc).length ≤ acc.length + x.count) (motive_2 := fun l => ∀ acc, (setsAll l acc).length ≤ acc.length + counts l) ?_ ?_ ?_ x
  · intro k s lo hi n l ih acc
    rw [Nd.setsTo, count_mk]
    split
    · unfold addSet; split <;> simp <;> omega
    · have := ih acc; omega
  · intro acc; rw [setsAll]; unfold counts; omega
  · intro y l hy hl acc
    rw [setsAll]
    have h1 := hy acc
    have h2 := hl (y.setsTo acc)
    unfold counts; omega
theorem setsAll_drop {l : List Nd} {j : Nat} (hj : j < l.length) (acc : List (BitVec 256)) : setsAll (l.drop j) acc = setsAll (l.drop (j + 1)) (l[j].setsTo acc) := by
  rw [List.drop_eq_getElem_cons hj, setsAll]
def StPost (w : World) (B : Nat) (A : List (BitVec 256)) (e : Ending) (w' : World) : Prop :=
  ∃ v', e = .returned v' ∧ w'.ownsRow B 33 256 v' A.length (refCells (A.map BitVec.getLsbD)) ∧ Below B w w' ∧ KeepS w w'
theorem quiet_load_refG5 {o : Oper} {a : Act} {C : World → Prop} {K : Act → Prop} (x : Operand) (ho : o.op = .load 33 x) (b off : Nat) (f : Nat → Bool) (hx : a.eval x = .pointer (some ⟨b, off, none⟩))
    (h : ∀ w, C w → Ref256 w b off f) (F : Array Value) (hF : F = bc f) (hK : K (a.put o.dst (.agg F))) : o.quiet Try.prog a C K := by
  subst hF
  exact quiet_load_refAt x ho b off f hx h hK
set_option maxHeartbeats 16000000 in
theorem refSets_any : ∀ (m : Nat) (x : Nd) (cs : List Value) (Wc : World) (acc : List (BitVec 256)) (v : Value) (B : Nat) (w : World), x.count ≤ m → Nd.ref Wc x cs → Wc.heap.size ≤ B → B ≤ w.heap.size → Below Wc.heap.size Wc w → acc.length + x.count ≤ 1000000 →
    w.ownsRow B 33 256 v acc.length (refCells (acc.map BitVec.getLsbD)) → Calls Try.prog 22 #[.agg cs.toArray, v] w (StPost w B (x.setsTo acc))
  | 0, x, _, _, _, _, _, _, h, _, _, _, _, _, _ => absurd (Nd.count_pos x) (by omega)
  | m + 1, .mk k s lo hi n l, cs, Wc, acc, v, B, w, hm, hat, hWB, hBw, hbw, hlen, hown => by
    rw [ref_mk] at hat
    obtain ⟨_, _, _, _, a, cap, rfl, hmax, hl⟩ := hat
    have hmx : (l.length : Int) ≤ 9223372036854775807 := by unfold maxLen at hmax; omega
    clear hmax
    rw [count_mk] at hm hlen
    obtain ⟨va, vcap, rfl⟩ := owns_form hown
    obtain ⟨W, hW⟩ : ∃ W, W = w.alloc (.cells (rdCells k s lo hi n (.slice a l.length cap)).toArray 36) := ⟨_, rfl⟩
    have hal : Below w.heap.size w W := by rw [hW]; exact (Below.refl _ _).alloc (Nat.le_refl _) _
    have hbx : W.heap[w.heap.size]? = some (.cells (rdCells k s lo hi n (.slice a l.length cap)).toArray 36 (0, 0)) := by rw [hW]; exact World.alloc_heap_new w _
    have hcc : ∀ w', KeepS W w' → NCells w' w.heap.size k s lo hi n (.slice a l.length cap) := fun w' h => ncells_box (h _ _ hbx (fun cs fr e => by injection e with _ e _; cases e))
    have p0 : W.cell? ⟨w.heap.size, 0, none⟩ = some (.int .i64 k) := (hcc W (KeepS.refl _)).c0
    have hownW := ownsS_below hown hal
    have Hs := Lib.hid (And.intro hWB (And.intro hBw (And.intro hbw hlen)))
    have Ho := Lib.hid (And.intro hownW hal)
    have Hcc := Lib.hid hcc
    have Hm := Lib.hid hm
    have Hih := Lib.hid (refSets_any m)
    have Hl := Lib.hid hl
    generalize rdCells k s lo hi n (.slice a l.length cap) = C at hW ⊢
    have hacc : (acc.length : Int) ≤ 9223372036854775807 := by omega
    have hst : (Nd.mk k s lo hi n l).setsTo acc = if k = 1 then addSet acc s else setsAll l acc := by rw [Nd.setsTo]
    rw [hst]
    clear hst hal hbx hcc hownW hown hWB hBw hbw hlen hm hl
    by_cases hk : k = 1
    · rw [if_pos hk]
      have e1 : (k == 1) = true := by simp [hk]
      clear hk
      have hown2 : W.ownsRow B 33 256 (.slice va (acc.map BitVec.getLsbD).length vcap) (acc.map BitVec.getLsbD).length (refCells (acc.map BitVec.getLsbD)) := by rw [List.length_map]; exact Ho.out.1
      have hrefs := (refsAt_of_owns hown2).1
      have Hrefs := Lib.hid hrefs
      clear hown2 hrefs
      go_enter Try.func22, Try.ntmps22
      go_upto_region 1 with (first
        | (refine Go.Great.wpList_boxTo rfl _ _ rfl _ rfl w.heap.size rfl C.toArray rfl ?_)
        | fail)
      rw [← hW]
      clear hW
      go_wp2_with fail
      go_loopw [5] (fun i wr => ∃ j : Nat, i = .int .i64 j ∧ j ≤ acc.length ∧ Hid (s ∉ acc.take j) ∧ Hid (Below W.heap.size W wr)) (fun i _ => acc.length - (intOf i).toNat)
      case atStart => exact ⟨0, rfl, Nat.zero_le _, Lib.hid (by simp), Lib.hid (Below.refl _ _)⟩
      case round =>
        obtain ⟨j, rfl, hj, hno, hB⟩ := hrel
        by_cases hjn : j < acc.length
        · have hd : decide ((j : Int) < acc.length) = true := by simp; omega
          obtain ⟨_, _, hrr⟩ := Hrefs.out
          obtain ⟨g, off, rfl, hgc, hgs, hcl⟩ := hrr.resolve_left (by rw [List.length_map]; omega)
          rw [List.length_map] at hgc
          have hcapI : (acc.length : Int) ≤ vcap := by omega
          have hcj := hcl j (by rw [List.length_map]; exact hjn)
          rw [show (acc.map BitVec.getLsbD).getD j bNone = acc[j].getLsbD from by rw [List.getD_eq_getElem?_getD, List.getElem?_map, List.getElem?_eq_getElem hjn]; rfl] at hcj
          have H1 := Lib.hid (fun L : Later wr => hcj.below (hB.out.trans (L.ok.mono hB.out.size)) hgs)
          have H2 := Lib.hid (fun L : Later wr => (Hcc.out _ ((KeepS.of_below hB.out).trans (KeepS.of_below L.ok))).set)
          have hne : Nonempty (Later wr) := Later.nonempty wr
          have htk : s ∉ acc.take (j + 1) ↔ s ∉ acc.take j ∧ acc[j] ≠ s := by
            rw [List.take_succ_eq_append_getElem hjn, List.mem_append, List.mem_singleton, not_or]
            exact and_congr_right fun _ => not_congr eq_comm
          have hin : acc[j] = s → s ∈ acc := fun h => h ▸ List.getElem_mem hjn
          have heq := eqlN acc[j] s
          obtain ⟨z, hz⟩ : ∃ z, z = decide (acc[j] = s) := ⟨_, rfl⟩
          rw [← hz] at heq
          unfold BV at heq
          obtain ⟨F, hF⟩ : ∃ F, F = bc acc[j].getLsbD := ⟨_, rfl⟩
          obtain ⟨G, hG⟩ : ∃ G, G = bc s.getLsbD := ⟨_, rfl⟩
          rw [← hF, ← hG] at heq
          have HF := Lib.hid hF
          have HG := Lib.hid hG
          have HZ := Lib.hid hz
          have Htk := Lib.hid (And.intro htk hin)
          clear hF hG hz htk hin hcj hcl hrr hgc hgs
          go_upto_region 5 with fail
          refine wp_region_later (W0 := wr) (Below.refl _ _) (by kernel_rfl) (by as_aux_lemma => kernel_rfl) ?_
          repeat (first
            | (go_big_quiet_want; refine quiet_load_refG5 _ rfl g (off + j * 256) _ rfl (fun w' hw' => by obtain ⟨L, rfl⟩ := hw'; exact H1.out L) F HF.out ?_; go_big_quiet_on; simp only [Act.put, List.setIfInBounds_toArray, List.set_cons_zero, List.set_cons_succ])
            | (go_big_quiet_want; refine quiet_load_refG5 _ rfl w.heap.size 1 _ rfl (fun w' hw' => by obtain ⟨L, rfl⟩ := hw'; exact H2.out L) G HG.out ?_; go_big_quiet_on; simp only [Act.put, List.setIfInBounds_toArray, List.set_cons_zero, List.set_cons_succ])
            | go_big_quiet_step (exact rfl))
          refine wpQuiet_nil ?_
          intro w' hw'
          obtain ⟨L', rfl⟩ := hw'
          have HL := Lib.hid L'.ok
          clear heq
          cases z
          · have HN : Hid (acc[j] ≠ s) := Lib.hid (by have h := HZ.out; simpa using h.symm)
            go_wp2_with fail
            go_roundw
            case rel => exact ⟨j + 1, by go_num, by omega, Lib.hid (Htk.out.1.2 ⟨hno.out, HN.out⟩), Lib.hid (hB.out.trans (HL.out.mono hB.out.size))⟩
            case measure => simp [intOf]; omega
          · have HN : Hid (s ∈ acc) := Lib.hid (Htk.out.2 (by have h := HZ.out; simpa using h.symm))
            go_wp2_with fail
            go_ret
            refine ⟨_, rfl, ?_, ((Ho.out.2.mono Hs.out.2.1).trans ((hB.out.trans (HL.out.mono hB.out.size)).mono (Nat.le_trans Hs.out.2.1 Ho.out.2.size))), (KeepS.of_below Ho.out.2).trans ((KeepS.of_below hB.out).trans (KeepS.of_below HL.out))⟩
            rw [show addSet acc s = acc from by unfold addSet; rw [if_pos HN.out]]
            exact ownsS_below (ownsS_below Ho.out.1 hB.out) HL.out
        · obtain rfl : j = acc.length := by omega
          have hd : decide ((acc.length : Int) < acc.length) = false := by simp
          have hno2 : s ∉ acc := by have h := hno.out; rwa [List.take_of_length_le (Nat.le_refl _)] at h
          have hadd : addSet acc s = acc ++ [s] := by unfold addSet; rw [if_neg hno2]
          have Hadd := Lib.hid hadd
          obtain ⟨i0, hi, hz0, hz1, hz2⟩ := info_parts info_ref
          have hset := (Hcc.out _ (KeepS.of_below hB.out)).set
          have hor := ownsS_below Ho.out.1 hB.out
          have Hor := Lib.hid hor
          have hwB : B ≤ wr.heap.size := Nat.le_trans Hs.out.2.1 (Nat.le_trans Ho.out.2.size hB.out.size)
          have hlen2 : acc.length ≤ 1000000 := by have := Hs.out.2.2.2; omega
          clear hno2 hadd hor hno hj hjn
          go_wp2_with (first
            | (refine wpList_load_refAt rfl _ rfl w.heap.size 1 s.getLsbD rfl hset ?_)
            | (refine wpList_build_ref rfl _ rfl s.getLsbD rfl ?_)
            | (at_builtin; refine wpList_append_own _ rfl _ _ 43 rfl B 33 i0 (.agg (bc bNone)) 256 256 Try.underlying43 hi hz0 hz1 hz2 (bc_size _) (by decide) _ _ _ rfl (Hor.out.alloc _) ⟨wr.heap.size, 0, none⟩ 1 1 (bc s.getLsbD).toList rfl (by rw [bc_length]) ?c1 ?c2 ?c3 ?c4 ?c5 ?_))
          case c1 => exact bc_new _ _ _
          case c2 => exact bc_list_one _
          case c3 => unfold maxLen; omega
          case c4 => omega
          case c5 => simp; omega
          intro v' w5 hown5 hgrow _
          have Hown5 := Lib.hid hown5
          have Hgr := Lib.hid hgrow
          clear hown5 hgrow
          go_wp2_with fail
          go_ret
          have hb4 : Below wr.heap.size wr (wr.alloc (.cells (bc s.getLsbD) 33)) := (Below.refl _ _).alloc (Nat.le_refl _) _
          refine ⟨v', rfl, ?_, ?_, ?_⟩
          · have h := Hown5.out
            rw [Hadd.out, List.map_append, refCells_append, List.length_append]
            have e : refCells ([s].map BitVec.getLsbD) = (bc s.getLsbD).toList := refCells_one _
            rw [e]
            exact h
          · exact (((Ho.out.2.mono Hs.out.2.1).trans (hB.out.mono (Nat.le_trans Hs.out.2.1 Ho.out.2.size))).trans (hb4.mono hwB)).grown Hgr.out (Nat.le_trans hwB hb4.size) (fun q hq => (Hor.out.lt q hq).1)
          · exact (KeepS.of_below Ho.out.2).trans ((KeepS.of_below hB.out).trans ((KeepS.of_below hb4).trans (KeepS.grown (Hor.out.alloc _) Hgr.out)))
    · rw [if_neg hk]
      have e1 : (k == 1) = false := by simp [hk]
      clear hk
      go_enter Try.func22, Try.ntmps22
      go_upto_region 1 with (first
        | (refine Go.Great.wpList_boxTo rfl _ _ rfl _ rfl w.heap.size rfl C.toArray rfl ?_)
        | fail)
      rw [← hW]
      clear hW
      go_wp2_with fail
      go_loopw [1, 6] (fun lv i wr => ∃ (j : Nat) (A : List (BitVec 256)) (vr : Value), vr = lv ∧ i = .int .i64 j ∧ j ≤ l.length ∧ Hid (setsAll l acc = setsAll (l.drop j) A) ∧ Hid (A.length + counts (l.drop j) ≤ 1000000) ∧ Hid (wr.ownsRow B 33 256 vr A.length (refCells (A.map BitVec.getLsbD))) ∧ Hid (Below B w wr ∧ KeepS W wr ∧ W.heap.size ≤ wr.heap.size)) (fun _ i _ => l.length - (intOf i).toNat)
      case atStart => exact ⟨0, acc, _, rfl, rfl, Nat.zero_le _, Lib.hid rfl, Lib.hid (by have := Hs.out.2.2.2; rw [List.drop_zero]; omega), Lib.hid Ho.out.1, Lib.hid ⟨Ho.out.2.mono Hs.out.2.1, KeepS.refl _, Nat.le_refl _⟩⟩
      case round =>
        obtain ⟨j, A, vr, rfl, rfl, hj, hA, hAl, hor, hB⟩ := hrel
        have c260 := (Hcc.out _ hB.out.2.1).c260
        by_cases hjl : j < l.length
        · have hd : decide ((j : Int) < l.length) = true := by simp; omega
          obtain ⟨b, off, rfl, hcap, hbb, hnodes⟩ := Hl.out.resolve_left (by omega)
          obtain ⟨ds, hds, hcell, hchild⟩ := nodesRef_get Wc b l off hnodes j hjl
          have hcapI : (l.length : Int) ≤ cap := by omega
          have hWr : Below Wc.heap.size Wc wr := Hs.out.2.2.1.trans (hB.out.1.mono Hs.out.1)
          have h9 : Ref261 wr b (off + j * 261) ds := ⟨hds, fun q hq => by rw [hWr.cell (p := ⟨b, off + j * 261 + q, none⟩) hbb]; exact hcell q hq⟩
          have hdrop : counts (l.drop j) = l[j].count + counts (l.drop (j + 1)) := by rw [List.drop_eq_getElem_cons hjl]; rw [counts]
          have hcall := Hih.out l[j] ds Wc A vr B wr (by have h1 := counts_mem (List.getElem_mem hjl); have := Hm.out; omega) hchild Hs.out.1 (by have h1 := hB.out.2.2; have h2 := Ho.out.2.size; have h3 := Hs.out.2.1; omega) hWr (by have := hAl.out; omega) hor.out
          have hstep := setsAll_drop hjl A
          have hgl := setsTo_len l[j] A
          have Hst := Lib.hid (And.intro hstep (And.intro hgl hdrop))
          generalize l[j] = y at hcall Hst
          clear hds hcell hchild hnodes hstep hgl hdrop hbb hWr
          go_wp2_with (first
            | (refine wpList_load_refnode rfl _ rfl b (off + j * 261) ds rfl h9 ?_)
            | (go_at_call 22; refine hcall.mono ?_; rintro e w3 ⟨v3, rfl, ho3, hb3, hk3⟩; have H3 := Lib.hid (And.intro ho3 (And.intro hb3 hk3)); clear ho3 hb3 hk3 hcall)
            | fail)
          go_roundw
          case rel => exact ⟨j + 1, y.setsTo A, v3, rfl, by go_num, by omega, Lib.hid (by rw [hA.out, Hst.out.1]), Lib.hid (by have h1 := hAl.out; have h2 := Hst.out.2.1; have h3 := Hst.out.2.2; omega), Lib.hid H3.out.1, Lib.hid ⟨hB.out.1.trans H3.out.2.1, hB.out.2.1.trans H3.out.2.2, Nat.le_trans hB.out.2.2 H3.out.2.1.size⟩⟩
          case measure => simp [intOf]; omega
        · obtain rfl : j = l.length := by omega
          have hd : decide ((l.length : Int) < l.length) = false := by simp
          have hAe : setsAll l acc = A := by rw [hA.out, List.drop_length, setsAll]
          have HAe := Lib.hid hAe
          clear hAe hj hjl
          go_wp2_with fail
          go_ret
          exact ⟨_, rfl, by rw [HAe.out]; exact hor.out, hB.out.1, (KeepS.of_below Ho.out.2).trans hB.out.2.1⟩
theorem refSetsTop_any (x : Nd) (cs : List Value) (w : World) (hat : Nd.ref w x cs) (hc : x.count ≤ 1000000) :
    Calls Try.prog 9 #[.agg cs.toArray] w fun e w' => ∃ v', e = .returned v' ∧ w'.ownsRow w.heap.size 33 256 v' x.sets.length (refCells (x.sets.map BitVec.getLsbD)) ∧ Below w.heap.size w w' := by
  obtain ⟨W, hW⟩ : ∃ W, W = w.alloc (.cells cs.toArray 36) := ⟨_, rfl⟩
  have hal : Below w.heap.size w W := by rw [hW]; exact (Below.refl _ _).alloc (Nat.le_refl _) _
  have hl : cs.length = 261 := ref_len hat
  have h9 : Ref261 W w.heap.size 0 cs := ⟨hl, fun q hq => by rw [hW, Nat.zero_add, cells_at (World.alloc_heap_new w _)]; simp⟩
  have hcall := refSets_any x.count x cs w [] (.slice none 0 0) w.heap.size W (Nat.le_refl _) hat (Nat.le_refl _) hal.size hal (by simpa using hc) (World.ownsRow_nil _ _ _ _)
  have Hal := Lib.hid hal
  generalize hC : cs.toArray = C at *
  clear hal hl
  go_enter Try.func9, Try.ntmps9
  go_upto_region 1 with (first
    | (refine Go.Great.wpList_boxTo rfl _ _ rfl _ rfl w.heap.size rfl C rfl ?_)
    | fail)
  rw [← hW]
  clear hW
  go_wp2_with (first
    | (refine wpList_load_refnode rfl _ rfl w.heap.size 0 cs rfl h9 ?_)
    | fail)
  refine hcall.mono ?_
  rintro e w3 ⟨v3, rfl, ho3, hb3, _⟩
  have H3 := Lib.hid (And.intro ho3 hb3)
  clear ho3 hb3 hcall
  go_wp2_with fail
  go_ret
  exact ⟨v3, rfl, H3.out.1, Hal.out.trans H3.out.2⟩
end Go.Proofs.Ytaanhijjhllckaa
