/- rank's own compare, compareLists, compareParts, Cmp, walked for every value. -/
import Derived.Test.YtkekdfelcfoilaaRankKit
namespace Go.Proofs.Ytkekdfelcfoilaa
namespace V
set_option maxRecDepth 100000
open Go.RowKit
def CmpOk (x : Vl) : Prop := ∀ (y : Vl) (cs ds : List Value) (w : World), Vl.at w x cs → Vl.at w y ds →
  Calls Try.prog 20 #[.agg cs.toArray, .agg ds.toArray] w fun e w' => e = .returned (.agg #[.int .i64 (longer x y), .int .i64 (ord x y)]) ∧ Below w.heap.size w w'
theorem elemVal : Try.prog.elem 23 = 25 := by kernel_rfl
theorem underVal : Try.prog.underlying 23 = some (.slice (Try.prog.elem 23)) := by rw [elemVal]; exact Try.underlying23
theorem size_val3 (w : World) : (sizeOf (Try.prog.elem 23)).run Try.prog w = .ok 3 w := by
  rw [elemVal]
  have hi := infoVal
  cases hq : Try.prog.info? 25 with
  | none => simp [hq] at hi
  | some i =>
    have hs : i.size = 3 := by simpa [hq] using hi
    simp [sizeOf, typeInfo, hq, hs]
/-- the rest of a list of values -/
theorem vals_drop {a : Option Addr} {n cap : Nat} {i : Nat} (hi : i ≤ n) (hn : n ≤ cap ∨ n = 0) : ∃ r : Value, (∀ w, (Instr.sliceAt 23 (.slice a n cap) (some (.int .i64 (i : Int))) none none).run Try.prog w = .ok r w) ∧ ∀ w (l : List Vl), l.length = n → ListAt w l (.slice a n cap) → ListAt w (l.drop i) r := by
  have hic : i ≤ cap := by omega
  refine ⟨.slice (if cap = i then a else a.map (·.add (i * 3))) (n - i) (cap - i), fun w => ?_, fun w l hl h => ?_⟩
  · rw [run_sliceAt_slice _ _ _ _ _ _ underVal, run_slice_l _ _ _ _ _ underVal _ _ (by omega) (by omega), size_val3]
    simp [Result.andThen, sliced]
  · obtain ⟨a', cap', e, hmax, h⟩ := h
    injection e with e1 e2 e3
    subst e1 e3
    refine ⟨_, _, by rw [List.length_drop, hl], by rw [List.length_drop]; omega, ?_⟩
    by_cases h0 : n - i = 0
    · exact .inl (by rw [List.length_drop, hl]; exact h0)
    rcases h with h | ⟨b, off, rfl, h1, h2, h3⟩
    · omega
    · refine .inr ⟨b, off + i * 3, ?_, by rw [List.length_drop, hl]; omega, h2, ?_⟩
      · rw [if_neg (by omega)]
        simp [Addr.add]
      · have : ∀ (l : List Vl) (i off : Nat), valsAt w l b off → valsAt w (l.drop i) b (off + i * 3) := by
          intro l
          induction l with
          | nil => intro i off _; rw [List.drop_nil, valsAt_nil]; trivial
          | cons x l ih =>
            intro i off hx
            cases i with
            | zero => simpa using hx
            | succ i =>
              rw [valsAt_cons] at hx
              rw [List.drop_succ_cons, show off + (i + 1) * 3 = off + 3 + i * 3 from by omega]
              exact ih i (off + 3) hx.2
        exact this l i off h3
/-- the first so many of a list of values -/
theorem vals_take {a : Option Addr} {n cap : Nat} {i : Nat} (hi : i ≤ n) (hn : n ≤ cap ∨ n = 0) : ∃ r : Value, (∀ w, (Instr.sliceAt 23 (.slice a n cap) none (some (.int .i64 (i : Int))) none).run Try.prog w = .ok r w) ∧ ∀ w (l : List Vl), l.length = n → ListAt w l (.slice a n cap) → ListAt w (l.take i) r := by
  have hic : i ≤ cap := by omega
  refine ⟨.slice (if cap = 0 then a else a.map (·.add (0 * 3))) i cap, fun w => ?_, fun w l hl h => ?_⟩
  · rw [run_sliceAt_slice _ _ _ _ _ _ underVal, run_slice_h _ _ _ _ _ underVal _ _ (by omega) (by omega), size_val3]
    simp [Result.andThen, sliced]
  · obtain ⟨a', cap', e, hmax, h⟩ := h
    injection e with e1 e2 e3
    subst e1 e3
    have hlen : (l.take i).length = i := by rw [List.length_take]; omega
    refine ⟨_, _, by rw [hlen], by omega, ?_⟩
    by_cases h0 : i = 0
    · exact .inl (by omega)
    rcases h with h | ⟨b, off, rfl, h1, h2, h3⟩
    · omega
    · refine .inr ⟨b, off, ?_, by omega, h2, valsAt_take l i off h3⟩
      rw [if_neg (by omega)]
      simp [Addr.add]
theorem quiet_slice_vlo {o : Oper} {a : Act} {C : World → Prop} {K : Act → Prop} (x y : Operand) (ho : o.op = .slice 23 x (some y) none none) (v u r : Value) (hx : a.eval x = v) (hy : a.eval y = u)
    (h : ∀ w, (Instr.sliceAt 23 v (some u) none none).run Try.prog w = .ok r w) (hK : K (a.put o.dst r)) : o.quiet Try.prog a C K :=
  ⟨r, fun w _ => by
    unfold Oper.quietAt execOp
    simp only [ho, Option.map_none, Option.map_some, hx, hy, Sem.run_bind, Sem.run_pure, Result.andThen_ok, h w]
    exact ⟨rfl, rfl⟩, hK⟩
theorem quiet_slice_vhi {o : Oper} {a : Act} {C : World → Prop} {K : Act → Prop} (x y : Operand) (ho : o.op = .slice 23 x none (some y) none) (v u r : Value) (hx : a.eval x = v) (hy : a.eval y = u)
    (h : ∀ w, (Instr.sliceAt 23 v none (some u) none).run Try.prog w = .ok r w) (hK : K (a.put o.dst r)) : o.quiet Try.prog a C K :=
  ⟨r, fun w _ => by
    unfold Oper.quietAt execOp
    simp only [ho, Option.map_none, Option.map_some, hx, hy, Sem.run_bind, Sem.run_pure, Result.andThen_ok, h w]
    exact ⟨rfl, rfl⟩, hK⟩
theorem build_out (x y : Int) (w : World) : (Instr.build 44 #[(0, .int .i64 x), (1, .int .i64 y)]).run Try.prog w = .ok (.agg #[.int .i64 x, .int .i64 y]) w := by kernel_rfl
theorem quiet_build_out {o : Oper} {a : Act} {C : World → Prop} {K : Act → Prop} (p q : Operand) (ho : o.op = .build 44 #[(0, p), (1, q)]) (x y : Int) (hx : a.eval p = .int .i64 x) (hy : a.eval q = .int .i64 y)
    (hK : K (a.put o.dst (.agg #[.int .i64 x, .int .i64 y]))) : o.quiet Try.prog a C K :=
  ⟨.agg #[.int .i64 x, .int .i64 y], fun w _ => by
    have hm : (#[(0, p), (1, q)] : Array (Nat × Operand)).map (fun (i, x) => (i, a.eval x)) = #[(0, .int .i64 x), (1, .int .i64 y)] := by simp [hx, hy]
    unfold Oper.quietAt execOp
    simp only [ho, hm, Sem.run_bind, Sem.run_pure, build_out, Result.andThen_ok]
    exact ⟨rfl, rfl⟩, hK⟩
theorem ListAt.kept {R : Nat} {w W w' : World} {l : List Vl} {v : Value} (h : ListAt w l v) (hb : Below w.heap.size w W) (hk : KeptR R W w') (hR : w.heap.size ≤ R) : ListAt w' l v :=
  h.below (hb.trans (hk.below hR hb.size))
theorem at_kept {R : Nat} {w W w' : World} {x : Vl} {cs : List Value} (h : Vl.at w x cs) (hb : Below w.heap.size w W) (hk : KeptR R W w') (hR : w.heap.size ≤ R) : Vl.at w' x cs :=
  Vl.at_below (hb.trans (hk.below hR hb.size)) (Nat.le_refl _) _ _ h
set_option maxHeartbeats 16000000 in
theorem cmpLists_any {l m : List Vl} (hx : ∀ x ∈ l, CmpOk x) {u v : Value} {w : World} (hl : ListAt w l u) (hm : ListAt w m v) :
    Calls Try.prog 30 #[u, v] w fun e w' => e = .returned (.agg #[.int .i64 (wrap64 (lens l - lens m)), .int .i64 (ordL l m)]) ∧ Below w.heap.size w w' := by
  have hl0 := hl
  have hm0 := hm
  obtain ⟨a1, c1, rfl, hmax1, hl1⟩ := hl
  obtain ⟨a2, c2, rfl, hmax2, hl2⟩ := hm
  obtain ⟨W, hW⟩ : ∃ W, W = (w.alloc (.cells #[.int .i64 0, .int .i64 0] 44)).alloc (.cells #[.int .i64 0, .int .i64 0] 44) := ⟨_, rfl⟩
  have hbW : Below w.heap.size w W := by rw [hW]; exact ((Below.refl _ _).alloc (Nat.le_refl _) _).alloc (by simp) _
  have hsW : W.heap.size = w.heap.size + 2 := by rw [hW]; simp
  have hO4 : OutIn W w.heap.size 0 0 := by
    rw [hW]
    exact OutIn.later (World.alloc_heap_new w _) ((Below.refl _ _).alloc (Nat.le_refl _) _)
  have hO6 : OutIn W (w.heap.size + 1) 0 0 := by
    have h := World.alloc_heap_new (w.alloc (.cells #[.int .i64 0, .int .i64 0] 44)) (.cells #[.int .i64 0, .int .i64 0] 44)
    rw [World.size_alloc] at h
    rw [hW]; exact h
  obtain ⟨n1, hn1⟩ : ∃ n1, n1 = l.length := ⟨_, rfl⟩
  obtain ⟨n2, hn2⟩ : ∃ n2, n2 = m.length := ⟨_, rfl⟩
  rw [← hn1] at hl1 hl0 hmax1 ⊢
  rw [← hn2] at hl2 hm0 hmax2 ⊢
  have hi1 : (n1 : Int) ≤ 9223372036854775807 := by unfold maxLen at hmax1; omega
  have hi2 : (n2 : Int) ≤ 9223372036854775807 := by unfold maxLen at hmax2; omega
  have HP : Hid ((n1 ≤ c1 ∨ n1 = 0) ∧ (n2 ≤ c2 ∨ n2 = 0)) := Lib.hid ⟨by rcases hl1 with h | ⟨_, _, _, h, _⟩ <;> omega, by rcases hl2 with h | ⟨_, _, _, h, _⟩ <;> omega⟩
  obtain ⟨nb, hnb⟩ : ∃ nb, nb = min n1 n2 := ⟨_, rfl⟩
  have hmin : min (n1 : Int) (n2 : Int) = (nb : Int) := by omega
  have hmin' : min (n2 : Int) (n1 : Int) = (nb : Int) := by omega
  have HNb := Lib.hid hnb
  have HN := Lib.hid (And.intro hn1 hn2)
  have HN2 : Hid ((l.length : Int) = (n1 : Int) ∧ (m.length : Int) = (n2 : Int)) := Lib.hid ⟨by omega, by omega⟩
  have HLs : Hid (ListAt w l (.slice a1 n1 c1) ∧ ListAt w m (.slice a2 n2 c2)) := Lib.hid ⟨hl0, hm0⟩
  have HbW := Lib.hid hbW
  have HsW := Lib.hid hsW
  have H4 := Lib.hid hO4
  have H6 := Lib.hid hO6
  have Hl1 := Lib.hid hl1
  have Hl2 := Lib.hid hl2
  have Hx := Lib.hid hx
  clear hl0 hm0 hl1 hl2 hmax1 hmax2 hbW hsW hO4 hO6 hn1 hn2 hnb hx
  go_enter Try.func30, Try.ntmps30
  go_upto_region 3 with fail
  rw [← hW]
  clear hW
  go_wp2_with fail
  go_loopw [7] (fun i wr => ∃ (j : Nat) (x o : Int), i = .int .i64 j ∧ Hid (CmpAt l m j x o) ∧ Hid (OutIn wr (w.heap.size + 1) x o) ∧ Hid (KeptR (w.heap.size + 1) W wr)) (fun i _ => nb - (intOf i).toNat)
  case atStart => exact ⟨0, 0, 0, rfl, Lib.hid (cmpAt_start l m), H6, Lib.hid (KeptR.refl _ _)⟩
  case round =>
    obtain ⟨j, x, o, rfl, hC, hO, hK⟩ := hrel
    have hc1 := hO.out.c1
    have HJ : Hid (j ≤ n1 ∧ j ≤ n2) := Lib.hid ⟨by rw [HN.out.1]; exact hC.out.left, by rw [HN.out.2]; exact hC.out.right⟩
    have hjI : (j : Int) ≤ n1 ∧ (j : Int) ≤ n2 := ⟨by have := HJ.out.1; omega, by have := HJ.out.2; omega⟩
    by_cases hjn : j < nb
    · have hd : decide ((j : Int) < nb) = true := by simp; omega
      by_cases ho : o = 0
      · subst ho
        have hj1 : j < n1 := by have := HNb.out; omega
        have hj2 : j < n2 := by have := HNb.out; omega
        have hd1 : decide ((j : Int) < n1) = true := by simp; omega
        have hd2 : decide ((j : Int) < n2) = true := by simp; omega
        have hjl : j < l.length := by have := HN.out.1; omega
        have hjm : j < m.length := by have := HN.out.2; omega
        obtain ⟨b1, off1, rfl, hcap1, hbw1, hnodes1⟩ := Hl1.out.resolve_left (by omega)
        obtain ⟨b2, off2, rfl, hcap2, hbw2, hnodes2⟩ := Hl2.out.resolve_left (by omega)
        have hcapI1 : (n1 : Int) ≤ c1 := by omega
        have hcapI2 : (n2 : Int) ≤ c2 := by omega
        obtain ⟨ds1, hcell1, hat1⟩ := vals_get _ b1 l off1 hnodes1 j hjl
        obtain ⟨ds2, hcell2, hat2⟩ := vals_get _ b2 m off2 hnodes2 j hjm
        have HV1 := Lib.hid (fun (w' : World) (h : KeptR (w.heap.size + 1) wr w') => Val3.below hcell1 hbw1 (HbW.out.trans ((hK.out.trans h).below (Nat.le_succ _) HbW.out.size)))
        have HV2 := Lib.hid (fun (w' : World) (h : KeptR (w.heap.size + 1) wr w') => Val3.below hcell2 hbw2 (HbW.out.trans ((hK.out.trans h).below (Nat.le_succ _) HbW.out.size)))
        have HC := Lib.hid (fun (w' : World) (h : KeptR (w.heap.size + 1) wr w') => Hx.out l[j] (List.getElem_mem hjl) m[j] ds1 ds2 w' (at_kept hat1 HbW.out (hK.out.trans h) (Nat.le_succ _)) (at_kept hat2 HbW.out (hK.out.trans h) (Nat.le_succ _)))
        have Hst := Lib.hid (cmpAt_step hC.out hjl hjm)
        generalize longer l[j] m[j] = x2 at HC Hst
        generalize ord l[j] m[j] = o2 at HC Hst
        clear hcell1 hcell2 hat1 hat2 hnodes1 hnodes2 hbw1 hbw2 hcap1 hcap2 hjl hjm hj1 hj2
        go_upto_region 6 with fail
        obtain ⟨wd, hwd⟩ : ∃ wd, wd = wr.drew := ⟨_, rfl⟩
        have hBd : Below wr.heap.size wr wd := by rw [hwd]; exact (Below.refl _ _).drew
        have hKd : KeptR (w.heap.size + 1) wr wd := KeptR.of_below hBd
        have hOd := (hO.out).later hBd
        have hNE : Nonempty (HeldW (KeptR (w.heap.size + 1) wr)) := ⟨⟨wd, hKd⟩⟩
        refine wp_region_hold (KeptR (w.heap.size + 1) wr) (.plain 0 (.plain 1 (.plain 2 (.plain 3 (.plain 4 (.plain 5 (.plain 6 (.plain 7 (.sole 8 (.sole 9 .done)))))))))) (by rw [← hwd]; exact hKd) (by kernel_rfl) (by kernel_rfl) (fun c a d v w h => by cases d <;> exact h) ?_
        rw [← hwd]
        clear hwd
        repeat (first
            | (refine' hold_skip ?_ ?_ ?_
               rotate_left 1
               · simp only [List.getElem?_toArray, List.getElem?_cons_zero, List.getElem?_cons_succ]; exact rfl
               · exact rfl
               simp only [Act.put, List.setIfInBounds_toArray, List.set_cons_zero, List.set_cons_succ])
            | (refine' hold_want ?_ ?_ (fun J hJ => ?_)
               rotate_left 1
               · simp only [List.getElem?_toArray, List.getElem?_cons_zero, List.getElem?_cons_succ]; exact rfl
               · exact rfl
               first
               | (refine quiet_load_val _ rfl b1 (off1 + j * 3) ds1 rfl (fun w' ⟨L, hL⟩ => hL ▸ HV1.out _ L.ok) ?_; refine hJ _ ?_; clear hJ J; try simp only [Act.put, List.setIfInBounds_toArray, List.set_cons_zero, List.set_cons_succ])
               | (refine quiet_load_val _ rfl b2 (off2 + j * 3) ds2 rfl (fun w' ⟨L, hL⟩ => hL ▸ HV2.out _ L.ok) ?_; refine hJ _ ?_; clear hJ J; try simp only [Act.put, List.setIfInBounds_toArray, List.set_cons_zero, List.set_cons_succ])
               | (refine quiet_extract _ _ rfl _ _ rfl rfl ?_; refine hJ _ ?_; clear hJ J; try simp only [Act.put, List.setIfInBounds_toArray, List.set_cons_zero, List.set_cons_succ])
               | (go_big_quiet_op; refine hJ _ ?_; clear hJ J; try simp only [Act.put, List.setIfInBounds_toArray, List.set_cons_zero, List.set_cons_succ])))
        refine' hold_sole ?_ ?_ (fun J hJ => ?_)
        rotate_left 1
        · simp only [List.getElem?_toArray, List.getElem?_cons_zero, List.getElem?_cons_succ]; exact rfl
        · exact rfl
        go_simp
        refine (HC.out _ hKd).mono ?_
        rintro e w21 ⟨rfl, hb21⟩
        have hK21 : KeptR (w.heap.size + 1) wr w21 := hKd.trans (KeptR.of_below hb21)
        have hO21 := hOd.later hb21
        refine hJ _ _ hK21 ?_
        clear hJ J hb21
        try simp only [Act.put, List.setIfInBounds_toArray, List.set_cons_zero, List.set_cons_succ]
        refine' hold_sole ?_ ?_ (fun J hJ => ?_)
        rotate_left 1
        · simp only [List.getElem?_toArray, List.getElem?_cons_zero, List.getElem?_cons_succ]; exact rfl
        · exact rfl
        refine wp_store_out _ _ rfl _ _ _ _ _ rfl rfl hO21 ?_
        intro w22 hO22 ho22
        have hK22 := hK21.trans (KeptR.of_only ho22)
        refine hJ _ _ hK22 ?_
        clear hJ J ho22
        try simp only [Act.put, List.setIfInBounds_toArray, List.set_cons_zero, List.set_cons_succ]
        refine hold_done ?_
        have HF := Lib.hid (And.intro hO22 hK22)
        go_wp2_with fail
        go_roundw
        case rel => exact ⟨j + 1, _, _, by go_num, Hst, Lib.hid HF.out.1, Lib.hid (hK.out.trans HF.out.2)⟩
        case measure => simp [intOf]; omega
      · have eo : (o == 0) = false := by simp [ho]
        have Hexit : Hid (o ≠ 0 ∨ j = l.length ∨ j = m.length) := Lib.hid (.inl ho)
        clear ho
        obtain ⟨r1, hr1, hd1⟩ := vals_drop (a := a1) (cap := c1) (i := j) HJ.out.1 HP.out.1
        obtain ⟨r2, hr2, hd2⟩ := vals_drop (a := a2) (cap := c2) (i := j) HJ.out.2 HP.out.2
        have HD1 := Lib.hid (fun w' (h : KeptR (w.heap.size + 1) wr w') => length_any (hd1 w' l HN.out.1.symm (HLs.out.1.kept HbW.out (hK.out.trans h) (Nat.le_succ _))))
        have HD2 := Lib.hid (fun w' (h : KeptR (w.heap.size + 1) wr w') => length_any (hd2 w' m HN.out.2.symm (HLs.out.2.kept HbW.out (hK.out.trans h) (Nat.le_succ _))))
        have Hend := Lib.hid (cmpAt_end hC.out Hexit.out)
        clear hd1 hd2
        generalize lens (l.drop j) = s1 at HD1 Hend
        generalize lens (m.drop j) = s2 at HD2 Hend
        go_upto_region 7 with fail
        obtain ⟨wd, hwd⟩ : ∃ wd, wd = wr.drew := ⟨_, rfl⟩
        have hBd : Below wr.heap.size wr wd := by rw [hwd]; exact (Below.refl _ _).drew
        have hKd : KeptR (w.heap.size + 1) wr wd := KeptR.of_below hBd
        have hOd := (hO.out).later hBd
        have hNE : Nonempty (HeldW (KeptR (w.heap.size + 1) wr)) := ⟨⟨wd, hKd⟩⟩
        refine wp_region_hold (KeptR (w.heap.size + 1) wr) (.plain 0 (.plain 2 (.plain 3 (.plain 4 (.plain 6 (.plain 7 (.plain 8 (.fork 1 (.sole 5 (.sole 9 (.plain 10 (.plain 11 (.plain 12 (.sole 13 .done)))))) 5 (.fork 1 (.sole 9 (.plain 10 (.plain 11 (.plain 12 (.sole 13 .done))))) 9 (.plain 10 (.sole 1 (.plain 11 (.plain 12 (.sole 13 .done)))))))))))))) (by rw [← hwd]; exact hKd) (by kernel_rfl) (by kernel_rfl) (fun c a d v w h => by cases d <;> exact h) ?_
        rw [← hwd]
        clear hwd
        repeat (first
            | (refine' hold_skip ?_ ?_ ?_
               rotate_left 1
               · simp only [List.getElem?_toArray, List.getElem?_cons_zero, List.getElem?_cons_succ]; exact rfl
               · exact rfl
               simp only [Act.put, List.setIfInBounds_toArray, List.set_cons_zero, List.set_cons_succ])
            | (refine' hold_want ?_ ?_ (fun J hJ => ?_)
               rotate_left 1
               · simp only [List.getElem?_toArray, List.getElem?_cons_zero, List.getElem?_cons_succ]; exact rfl
               · exact rfl
               first
               | (refine quiet_slice_vlo _ _ rfl _ _ _ rfl rfl hr1 ?_; refine hJ _ ?_; clear hJ J; try simp only [Act.put, List.setIfInBounds_toArray, List.set_cons_zero, List.set_cons_succ])
               | (refine quiet_slice_vlo _ _ rfl _ _ _ rfl rfl hr2 ?_; refine hJ _ ?_; clear hJ J; try simp only [Act.put, List.setIfInBounds_toArray, List.set_cons_zero, List.set_cons_succ])
               | (refine quiet_extract _ _ rfl _ _ rfl rfl ?_; refine hJ _ ?_; clear hJ J; try simp only [Act.put, List.setIfInBounds_toArray, List.set_cons_zero, List.set_cons_succ])
               | (go_big_quiet_op; refine hJ _ ?_; clear hJ J; try simp only [Act.put, List.setIfInBounds_toArray, List.set_cons_zero, List.set_cons_succ])))
        refine hold_fork ?_ ?_
        · refine' hold_step ?_ ?_ (fun J hJ => ?_)
          rotate_left 1
          · simp only [List.getElem?_toArray, List.getElem?_cons_zero, List.getElem?_cons_succ]; exact rfl
          · exact rfl
          refine wp_load_oint _ rfl _ _ rfl hOd.c0 ?_
          refine hJ _ _ hKd ?_
          clear hJ J
          try simp only [Act.put, List.setIfInBounds_toArray, List.set_cons_zero, List.set_cons_succ]
          refine' hold_sole ?_ ?_ (fun J hJ => ?_)
          rotate_left 1
          · simp only [List.getElem?_toArray, List.getElem?_cons_zero, List.getElem?_cons_succ]; exact rfl
          · exact rfl
          go_simp
          refine (HD1.out _ hKd).mono ?_
          rintro e w23 ⟨rfl, hb23⟩
          have hK23 : KeptR (w.heap.size + 1) wr w23 := hKd.trans (KeptR.of_below hb23)
          have hO23 := hOd.later hb23
          refine hJ _ _ hK23 ?_
          clear hJ J hb23
          try simp only [Act.put, List.setIfInBounds_toArray, List.set_cons_zero, List.set_cons_succ]
          refine' hold_sole ?_ ?_ (fun J hJ => ?_)
          rotate_left 1
          · simp only [List.getElem?_toArray, List.getElem?_cons_zero, List.getElem?_cons_succ]; exact rfl
          · exact rfl
          go_simp
          refine (HD2.out _ hK23).mono ?_
          rintro e w24 ⟨rfl, hb24⟩
          have hK24 : KeptR (w.heap.size + 1) wr w24 := hK23.trans (KeptR.of_below hb24)
          have hO24 := hO23.later hb24
          refine hJ _ _ hK24 ?_
          clear hJ J hb24
          try simp only [Act.put, List.setIfInBounds_toArray, List.set_cons_zero, List.set_cons_succ]
          repeat (first
              | (refine' hold_skip ?_ ?_ ?_
                 rotate_left 1
                 · simp only [List.getElem?_toArray, List.getElem?_cons_zero, List.getElem?_cons_succ]; exact rfl
                 · exact rfl
                 simp only [Act.put, List.setIfInBounds_toArray, List.set_cons_zero, List.set_cons_succ])
              | (refine' hold_want ?_ ?_ (fun J hJ => ?_)
                 rotate_left 1
                 · simp only [List.getElem?_toArray, List.getElem?_cons_zero, List.getElem?_cons_succ]; exact rfl
                 · exact rfl
                 first
                 | (refine quiet_slice_vlo _ _ rfl _ _ _ rfl rfl hr1 ?_; refine hJ _ ?_; clear hJ J; try simp only [Act.put, List.setIfInBounds_toArray, List.set_cons_zero, List.set_cons_succ])
                 | (refine quiet_slice_vlo _ _ rfl _ _ _ rfl rfl hr2 ?_; refine hJ _ ?_; clear hJ J; try simp only [Act.put, List.setIfInBounds_toArray, List.set_cons_zero, List.set_cons_succ])
                 | (refine quiet_extract _ _ rfl _ _ rfl rfl ?_; refine hJ _ ?_; clear hJ J; try simp only [Act.put, List.setIfInBounds_toArray, List.set_cons_zero, List.set_cons_succ])
                 | (go_big_quiet_op; refine hJ _ ?_; clear hJ J; try simp only [Act.put, List.setIfInBounds_toArray, List.set_cons_zero, List.set_cons_succ])))
          refine' hold_sole ?_ ?_ (fun J hJ => ?_)
          rotate_left 1
          · simp only [List.getElem?_toArray, List.getElem?_cons_zero, List.getElem?_cons_succ]; exact rfl
          · exact rfl
          refine wp_store_long _ _ rfl _ _ _ _ rfl rfl hO24 ?_
          intro w25 hO25 ho25
          have hK25 := hK24.trans (KeptR.of_only ho25)
          refine hJ _ _ hK25 ?_
          clear hJ J ho25
          try simp only [Act.put, List.setIfInBounds_toArray, List.set_cons_zero, List.set_cons_succ]
          refine hold_done ?_
          obtain ⟨w7, rfl⟩ : ∃ w7, w7 = w25 := ⟨_, rfl⟩
          have H7 := Lib.hid (And.intro hO25 (hK.out.trans hK25))
          have hOx := hO25
          go_upto_region 8 with fail
          obtain ⟨wd, hwd⟩ : ∃ wd, wd = w7.drew := ⟨_, rfl⟩
          have hBd : Below w7.heap.size w7 wd := by rw [hwd]; exact (Below.refl _ _).drew
          have hKd : KeptR (w.heap.size + 1) w7 wd := KeptR.of_below hBd
          have hOd := (hO25).later hBd
          have hNE : Nonempty (HeldW (KeptR (w.heap.size + 1) w7)) := ⟨⟨wd, hKd⟩⟩
          refine wp_region_hold (KeptR (w.heap.size + 1) w7) (.plain 0 (.plain 2 (.plain 3 (.plain 4 (.plain 5 (.fork 1 (.sole 6 (.sole 7 (.sole 8 (.plain 9 (.sole 10 .done))))) 6 (.sole 1 (.sole 7 (.sole 8 (.plain 9 (.sole 10 .done))))))))))) (by rw [← hwd]; exact hKd) (by kernel_rfl) (by kernel_rfl) (fun c a d v w h => by cases d <;> exact h) ?_
          rw [← hwd]
          clear hwd
          repeat (first
              | (refine' hold_skip ?_ ?_ ?_
                 rotate_left 1
                 · simp only [List.getElem?_toArray, List.getElem?_cons_zero, List.getElem?_cons_succ]; exact rfl
                 · exact rfl
                 simp only [Act.put, List.setIfInBounds_toArray, List.set_cons_zero, List.set_cons_succ])
              | (refine' hold_want ?_ ?_ (fun J hJ => ?_)
                 rotate_left 1
                 · simp only [List.getElem?_toArray, List.getElem?_cons_zero, List.getElem?_cons_succ]; exact rfl
                 · exact rfl
                 first
                 | (refine quiet_extract _ _ rfl _ _ rfl rfl ?_; refine hJ _ ?_; clear hJ J; try simp only [Act.put, List.setIfInBounds_toArray, List.set_cons_zero, List.set_cons_succ])
                 | (go_big_quiet_op; refine hJ _ ?_; clear hJ J; try simp only [Act.put, List.setIfInBounds_toArray, List.set_cons_zero, List.set_cons_succ])))
          refine hold_fork ?_ ?_
          · refine' hold_step ?_ ?_ (fun J hJ => ?_)
            rotate_left 1
            · simp only [List.getElem?_toArray, List.getElem?_cons_zero, List.getElem?_cons_succ]; exact rfl
            · exact rfl
            refine wp_load_oint _ rfl _ _ rfl hOd.c1 ?_
            refine hJ _ _ hKd ?_
            clear hJ J
            try simp only [Act.put, List.setIfInBounds_toArray, List.set_cons_zero, List.set_cons_succ]
            refine' hold_sole ?_ ?_ (fun J hJ => ?_)
            rotate_left 1
            · simp only [List.getElem?_toArray, List.getElem?_cons_zero, List.getElem?_cons_succ]; exact rfl
            · exact rfl
            go_simp
            refine (cmpInt_any _ _ _).mono ?_
            rintro e w26 ⟨rfl, hb26⟩
            have hK26 : KeptR (w.heap.size + 1) w7 w26 := hKd.trans (KeptR.of_below hb26)
            have hO26 := hOd.later hb26
            refine hJ _ _ hK26 ?_
            clear hJ J hb26
            try simp only [Act.put, List.setIfInBounds_toArray, List.set_cons_zero, List.set_cons_succ]
            refine' hold_sole ?_ ?_ (fun J hJ => ?_)
            rotate_left 1
            · simp only [List.getElem?_toArray, List.getElem?_cons_zero, List.getElem?_cons_succ]; exact rfl
            · exact rfl
            refine wp_build_two _ _ rfl _ _ rfl rfl ?_
            intro w27 hT27 hb27
            have hK27 := hK26.trans (KeptR.of_below hb27)
            have hO27 := hO26.later hb27
            refine hJ _ _ hK27 ?_
            clear hJ J hb27
            try simp only [Act.put, List.setIfInBounds_toArray, List.set_cons_zero, List.set_cons_succ]
            refine' hold_sole ?_ ?_ (fun J hJ => ?_)
            rotate_left 1
            · simp only [List.getElem?_toArray, List.getElem?_cons_zero, List.getElem?_cons_succ]; exact rfl
            · exact rfl
            go_simp
            refine (orInt_any _ _ _ _ hT27).mono ?_
            rintro e w28 ⟨rfl, hb28⟩
            have hK28 : KeptR (w.heap.size + 1) w7 w28 := hK27.trans (KeptR.of_below hb28)
            have hO28 := hO27.later hb28
            refine hJ _ _ hK28 ?_
            clear hJ J hb28
            try simp only [Act.put, List.setIfInBounds_toArray, List.set_cons_zero, List.set_cons_succ]
            repeat (first
                | (refine' hold_skip ?_ ?_ ?_
                   rotate_left 1
                   · simp only [List.getElem?_toArray, List.getElem?_cons_zero, List.getElem?_cons_succ]; exact rfl
                   · exact rfl
                   simp only [Act.put, List.setIfInBounds_toArray, List.set_cons_zero, List.set_cons_succ])
                | (refine' hold_want ?_ ?_ (fun J hJ => ?_)
                   rotate_left 1
                   · simp only [List.getElem?_toArray, List.getElem?_cons_zero, List.getElem?_cons_succ]; exact rfl
                   · exact rfl
                   first
                   | (refine quiet_extract _ _ rfl _ _ rfl rfl ?_; refine hJ _ ?_; clear hJ J; try simp only [Act.put, List.setIfInBounds_toArray, List.set_cons_zero, List.set_cons_succ])
                   | (go_big_quiet_op; refine hJ _ ?_; clear hJ J; try simp only [Act.put, List.setIfInBounds_toArray, List.set_cons_zero, List.set_cons_succ])))
            refine' hold_sole ?_ ?_ (fun J hJ => ?_)
            rotate_left 1
            · simp only [List.getElem?_toArray, List.getElem?_cons_zero, List.getElem?_cons_succ]; exact rfl
            · exact rfl
            refine wp_store_order _ _ rfl _ _ _ _ rfl rfl hO28 ?_
            intro w29 hO29 ho29
            have hK29 := hK28.trans (KeptR.of_only ho29)
            refine hJ _ _ hK29 ?_
            clear hJ J ho29
            try simp only [Act.put, List.setIfInBounds_toArray, List.set_cons_zero, List.set_cons_succ]
            refine hold_done ?_
            have H8 := Lib.hid (And.intro hO29 (H7.out.2.trans hK29))
            have hOy := H4.out.kept H8.out.2 (by omega)
            go_wp2_with (first
              | (refine wpList_load_out rfl _ rfl (w.heap.size + 1) _ _ rfl H8.out.1 ?_)
              | (refine wpList_store_out rfl _ _ rfl w.heap.size _ _ _ _ rfl rfl hOy ?_; intro w9 hO9 ho9; have H9 := Lib.hid (And.intro hO9 ho9); clear hO9 ho9)
              | fail)
            rw [← Hend.out.1, ← Hend.out.2, HN2.out.1, HN2.out.2]
            exact bodyPost_ret (results_out rfl _ _ w.heap.size _ _ rfl H9.out.1) rfl ⟨rfl, H9.out.2.below (HbW.out.trans (H8.out.2.below (by omega) HbW.out.size)) (Nat.le_refl _)⟩

          · refine' hold_step ?_ ?_ (fun J hJ => ?_)
            rotate_left 1
            · simp only [List.getElem?_toArray, List.getElem?_cons_zero, List.getElem?_cons_succ]; exact rfl
            · exact rfl
            go_simp
            refine (cmpInt_any _ _ _).mono ?_
            rintro e w30 ⟨rfl, hb30⟩
            have hK30 : KeptR (w.heap.size + 1) w7 w30 := hKd.trans (KeptR.of_below hb30)
            have hO30 := hOd.later hb30
            refine hJ _ _ hK30 ?_
            clear hJ J hb30
            try simp only [Act.put, List.setIfInBounds_toArray, List.set_cons_zero, List.set_cons_succ]
            refine' hold_sole ?_ ?_ (fun J hJ => ?_)
            rotate_left 1
            · simp only [List.getElem?_toArray, List.getElem?_cons_zero, List.getElem?_cons_succ]; exact rfl
            · exact rfl
            refine wp_load_oint _ rfl _ _ rfl hO30.c1 ?_
            refine hJ _ _ hK30 ?_
            clear hJ J
            try simp only [Act.put, List.setIfInBounds_toArray, List.set_cons_zero, List.set_cons_succ]
            refine' hold_sole ?_ ?_ (fun J hJ => ?_)
            rotate_left 1
            · simp only [List.getElem?_toArray, List.getElem?_cons_zero, List.getElem?_cons_succ]; exact rfl
            · exact rfl
            refine wp_build_two _ _ rfl _ _ rfl rfl ?_
            intro w31 hT31 hb31
            have hK31 := hK30.trans (KeptR.of_below hb31)
            have hO31 := hO30.later hb31
            refine hJ _ _ hK31 ?_
            clear hJ J hb31
            try simp only [Act.put, List.setIfInBounds_toArray, List.set_cons_zero, List.set_cons_succ]
            refine' hold_sole ?_ ?_ (fun J hJ => ?_)
            rotate_left 1
            · simp only [List.getElem?_toArray, List.getElem?_cons_zero, List.getElem?_cons_succ]; exact rfl
            · exact rfl
            go_simp
            refine (orInt_any _ _ _ _ hT31).mono ?_
            rintro e w32 ⟨rfl, hb32⟩
            have hK32 : KeptR (w.heap.size + 1) w7 w32 := hK31.trans (KeptR.of_below hb32)
            have hO32 := hO31.later hb32
            refine hJ _ _ hK32 ?_
            clear hJ J hb32
            try simp only [Act.put, List.setIfInBounds_toArray, List.set_cons_zero, List.set_cons_succ]
            repeat (first
                | (refine' hold_skip ?_ ?_ ?_
                   rotate_left 1
                   · simp only [List.getElem?_toArray, List.getElem?_cons_zero, List.getElem?_cons_succ]; exact rfl
                   · exact rfl
                   simp only [Act.put, List.setIfInBounds_toArray, List.set_cons_zero, List.set_cons_succ])
                | (refine' hold_want ?_ ?_ (fun J hJ => ?_)
                   rotate_left 1
                   · simp only [List.getElem?_toArray, List.getElem?_cons_zero, List.getElem?_cons_succ]; exact rfl
                   · exact rfl
                   first
                   | (refine quiet_extract _ _ rfl _ _ rfl rfl ?_; refine hJ _ ?_; clear hJ J; try simp only [Act.put, List.setIfInBounds_toArray, List.set_cons_zero, List.set_cons_succ])
                   | (go_big_quiet_op; refine hJ _ ?_; clear hJ J; try simp only [Act.put, List.setIfInBounds_toArray, List.set_cons_zero, List.set_cons_succ])))
            refine' hold_sole ?_ ?_ (fun J hJ => ?_)
            rotate_left 1
            · simp only [List.getElem?_toArray, List.getElem?_cons_zero, List.getElem?_cons_succ]; exact rfl
            · exact rfl
            refine wp_store_order _ _ rfl _ _ _ _ rfl rfl hO32 ?_
            intro w33 hO33 ho33
            have hK33 := hK32.trans (KeptR.of_only ho33)
            refine hJ _ _ hK33 ?_
            clear hJ J ho33
            try simp only [Act.put, List.setIfInBounds_toArray, List.set_cons_zero, List.set_cons_succ]
            refine hold_done ?_
            have H8 := Lib.hid (And.intro hO33 (H7.out.2.trans hK33))
            have hOy := H4.out.kept H8.out.2 (by omega)
            go_wp2_with (first
              | (refine wpList_load_out rfl _ rfl (w.heap.size + 1) _ _ rfl H8.out.1 ?_)
              | (refine wpList_store_out rfl _ _ rfl w.heap.size _ _ _ _ rfl rfl hOy ?_; intro w9 hO9 ho9; have H9 := Lib.hid (And.intro hO9 ho9); clear hO9 ho9)
              | fail)
            rw [← Hend.out.1, ← Hend.out.2, HN2.out.1, HN2.out.2]
            exact bodyPost_ret (results_out rfl _ _ w.heap.size _ _ rfl H9.out.1) rfl ⟨rfl, H9.out.2.below (HbW.out.trans (H8.out.2.below (by omega) HbW.out.size)) (Nat.le_refl _)⟩


        · refine' hold_step ?_ ?_ (fun J hJ => ?_)
          rotate_left 1
          · simp only [List.getElem?_toArray, List.getElem?_cons_zero, List.getElem?_cons_succ]; exact rfl
          · exact rfl
          go_simp
          refine (HD1.out _ hKd).mono ?_
          rintro e w34 ⟨rfl, hb34⟩
          have hK34 : KeptR (w.heap.size + 1) wr w34 := hKd.trans (KeptR.of_below hb34)
          have hO34 := hOd.later hb34
          refine hJ _ _ hK34 ?_
          clear hJ J hb34
          try simp only [Act.put, List.setIfInBounds_toArray, List.set_cons_zero, List.set_cons_succ]
          refine hold_fork ?_ ?_
          · refine' hold_step ?_ ?_ (fun J hJ => ?_)
            rotate_left 1
            · simp only [List.getElem?_toArray, List.getElem?_cons_zero, List.getElem?_cons_succ]; exact rfl
            · exact rfl
            refine wp_load_oint _ rfl _ _ rfl hO34.c0 ?_
            refine hJ _ _ hK34 ?_
            clear hJ J
            try simp only [Act.put, List.setIfInBounds_toArray, List.set_cons_zero, List.set_cons_succ]
            refine' hold_sole ?_ ?_ (fun J hJ => ?_)
            rotate_left 1
            · simp only [List.getElem?_toArray, List.getElem?_cons_zero, List.getElem?_cons_succ]; exact rfl
            · exact rfl
            go_simp
            refine (HD2.out _ hK34).mono ?_
            rintro e w35 ⟨rfl, hb35⟩
            have hK35 : KeptR (w.heap.size + 1) wr w35 := hK34.trans (KeptR.of_below hb35)
            have hO35 := hO34.later hb35
            refine hJ _ _ hK35 ?_
            clear hJ J hb35
            try simp only [Act.put, List.setIfInBounds_toArray, List.set_cons_zero, List.set_cons_succ]
            repeat (first
                | (refine' hold_skip ?_ ?_ ?_
                   rotate_left 1
                   · simp only [List.getElem?_toArray, List.getElem?_cons_zero, List.getElem?_cons_succ]; exact rfl
                   · exact rfl
                   simp only [Act.put, List.setIfInBounds_toArray, List.set_cons_zero, List.set_cons_succ])
                | (refine' hold_want ?_ ?_ (fun J hJ => ?_)
                   rotate_left 1
                   · simp only [List.getElem?_toArray, List.getElem?_cons_zero, List.getElem?_cons_succ]; exact rfl
                   · exact rfl
                   first
                   | (refine quiet_slice_vlo _ _ rfl _ _ _ rfl rfl hr1 ?_; refine hJ _ ?_; clear hJ J; try simp only [Act.put, List.setIfInBounds_toArray, List.set_cons_zero, List.set_cons_succ])
                   | (refine quiet_slice_vlo _ _ rfl _ _ _ rfl rfl hr2 ?_; refine hJ _ ?_; clear hJ J; try simp only [Act.put, List.setIfInBounds_toArray, List.set_cons_zero, List.set_cons_succ])
                   | (refine quiet_extract _ _ rfl _ _ rfl rfl ?_; refine hJ _ ?_; clear hJ J; try simp only [Act.put, List.setIfInBounds_toArray, List.set_cons_zero, List.set_cons_succ])
                   | (go_big_quiet_op; refine hJ _ ?_; clear hJ J; try simp only [Act.put, List.setIfInBounds_toArray, List.set_cons_zero, List.set_cons_succ])))
            refine' hold_sole ?_ ?_ (fun J hJ => ?_)
            rotate_left 1
            · simp only [List.getElem?_toArray, List.getElem?_cons_zero, List.getElem?_cons_succ]; exact rfl
            · exact rfl
            refine wp_store_long _ _ rfl _ _ _ _ rfl rfl hO35 ?_
            intro w36 hO36 ho36
            have hK36 := hK35.trans (KeptR.of_only ho36)
            refine hJ _ _ hK36 ?_
            clear hJ J ho36
            try simp only [Act.put, List.setIfInBounds_toArray, List.set_cons_zero, List.set_cons_succ]
            refine hold_done ?_
            obtain ⟨w7, rfl⟩ : ∃ w7, w7 = w36 := ⟨_, rfl⟩
            have H7 := Lib.hid (And.intro hO36 (hK.out.trans hK36))
            have hOx := hO36
            go_upto_region 8 with fail
            obtain ⟨wd, hwd⟩ : ∃ wd, wd = w7.drew := ⟨_, rfl⟩
            have hBd : Below w7.heap.size w7 wd := by rw [hwd]; exact (Below.refl _ _).drew
            have hKd : KeptR (w.heap.size + 1) w7 wd := KeptR.of_below hBd
            have hOd := (hO36).later hBd
            have hNE : Nonempty (HeldW (KeptR (w.heap.size + 1) w7)) := ⟨⟨wd, hKd⟩⟩
            refine wp_region_hold (KeptR (w.heap.size + 1) w7) (.plain 0 (.plain 2 (.plain 3 (.plain 4 (.plain 5 (.fork 1 (.sole 6 (.sole 7 (.sole 8 (.plain 9 (.sole 10 .done))))) 6 (.sole 1 (.sole 7 (.sole 8 (.plain 9 (.sole 10 .done))))))))))) (by rw [← hwd]; exact hKd) (by kernel_rfl) (by kernel_rfl) (fun c a d v w h => by cases d <;> exact h) ?_
            rw [← hwd]
            clear hwd
            repeat (first
                | (refine' hold_skip ?_ ?_ ?_
                   rotate_left 1
                   · simp only [List.getElem?_toArray, List.getElem?_cons_zero, List.getElem?_cons_succ]; exact rfl
                   · exact rfl
                   simp only [Act.put, List.setIfInBounds_toArray, List.set_cons_zero, List.set_cons_succ])
                | (refine' hold_want ?_ ?_ (fun J hJ => ?_)
                   rotate_left 1
                   · simp only [List.getElem?_toArray, List.getElem?_cons_zero, List.getElem?_cons_succ]; exact rfl
                   · exact rfl
                   first
                   | (refine quiet_extract _ _ rfl _ _ rfl rfl ?_; refine hJ _ ?_; clear hJ J; try simp only [Act.put, List.setIfInBounds_toArray, List.set_cons_zero, List.set_cons_succ])
                   | (go_big_quiet_op; refine hJ _ ?_; clear hJ J; try simp only [Act.put, List.setIfInBounds_toArray, List.set_cons_zero, List.set_cons_succ])))
            refine hold_fork ?_ ?_
            · refine' hold_step ?_ ?_ (fun J hJ => ?_)
              rotate_left 1
              · simp only [List.getElem?_toArray, List.getElem?_cons_zero, List.getElem?_cons_succ]; exact rfl
              · exact rfl
              refine wp_load_oint _ rfl _ _ rfl hOd.c1 ?_
              refine hJ _ _ hKd ?_
              clear hJ J
              try simp only [Act.put, List.setIfInBounds_toArray, List.set_cons_zero, List.set_cons_succ]
              refine' hold_sole ?_ ?_ (fun J hJ => ?_)
              rotate_left 1
              · simp only [List.getElem?_toArray, List.getElem?_cons_zero, List.getElem?_cons_succ]; exact rfl
              · exact rfl
              go_simp
              refine (cmpInt_any _ _ _).mono ?_
              rintro e w37 ⟨rfl, hb37⟩
              have hK37 : KeptR (w.heap.size + 1) w7 w37 := hKd.trans (KeptR.of_below hb37)
              have hO37 := hOd.later hb37
              refine hJ _ _ hK37 ?_
              clear hJ J hb37
              try simp only [Act.put, List.setIfInBounds_toArray, List.set_cons_zero, List.set_cons_succ]
              refine' hold_sole ?_ ?_ (fun J hJ => ?_)
              rotate_left 1
              · simp only [List.getElem?_toArray, List.getElem?_cons_zero, List.getElem?_cons_succ]; exact rfl
              · exact rfl
              refine wp_build_two _ _ rfl _ _ rfl rfl ?_
              intro w38 hT38 hb38
              have hK38 := hK37.trans (KeptR.of_below hb38)
              have hO38 := hO37.later hb38
              refine hJ _ _ hK38 ?_
              clear hJ J hb38
              try simp only [Act.put, List.setIfInBounds_toArray, List.set_cons_zero, List.set_cons_succ]
              refine' hold_sole ?_ ?_ (fun J hJ => ?_)
              rotate_left 1
              · simp only [List.getElem?_toArray, List.getElem?_cons_zero, List.getElem?_cons_succ]; exact rfl
              · exact rfl
              go_simp
              refine (orInt_any _ _ _ _ hT38).mono ?_
              rintro e w39 ⟨rfl, hb39⟩
              have hK39 : KeptR (w.heap.size + 1) w7 w39 := hK38.trans (KeptR.of_below hb39)
              have hO39 := hO38.later hb39
              refine hJ _ _ hK39 ?_
              clear hJ J hb39
              try simp only [Act.put, List.setIfInBounds_toArray, List.set_cons_zero, List.set_cons_succ]
              repeat (first
                  | (refine' hold_skip ?_ ?_ ?_
                     rotate_left 1
                     · simp only [List.getElem?_toArray, List.getElem?_cons_zero, List.getElem?_cons_succ]; exact rfl
                     · exact rfl
                     simp only [Act.put, List.setIfInBounds_toArray, List.set_cons_zero, List.set_cons_succ])
                  | (refine' hold_want ?_ ?_ (fun J hJ => ?_)
                     rotate_left 1
                     · simp only [List.getElem?_toArray, List.getElem?_cons_zero, List.getElem?_cons_succ]; exact rfl
                     · exact rfl
                     first
                     | (refine quiet_extract _ _ rfl _ _ rfl rfl ?_; refine hJ _ ?_; clear hJ J; try simp only [Act.put, List.setIfInBounds_toArray, List.set_cons_zero, List.set_cons_succ])
                     | (go_big_quiet_op; refine hJ _ ?_; clear hJ J; try simp only [Act.put, List.setIfInBounds_toArray, List.set_cons_zero, List.set_cons_succ])))
              refine' hold_sole ?_ ?_ (fun J hJ => ?_)
              rotate_left 1
              · simp only [List.getElem?_toArray, List.getElem?_cons_zero, List.getElem?_cons_succ]; exact rfl
              · exact rfl
              refine wp_store_order _ _ rfl _ _ _ _ rfl rfl hO39 ?_
              intro w40 hO40 ho40
              have hK40 := hK39.trans (KeptR.of_only ho40)
              refine hJ _ _ hK40 ?_
              clear hJ J ho40
              try simp only [Act.put, List.setIfInBounds_toArray, List.set_cons_zero, List.set_cons_succ]
              refine hold_done ?_
              have H8 := Lib.hid (And.intro hO40 (H7.out.2.trans hK40))
              have hOy := H4.out.kept H8.out.2 (by omega)
              go_wp2_with (first
                | (refine wpList_load_out rfl _ rfl (w.heap.size + 1) _ _ rfl H8.out.1 ?_)
                | (refine wpList_store_out rfl _ _ rfl w.heap.size _ _ _ _ rfl rfl hOy ?_; intro w9 hO9 ho9; have H9 := Lib.hid (And.intro hO9 ho9); clear hO9 ho9)
                | fail)
              rw [← Hend.out.1, ← Hend.out.2, HN2.out.1, HN2.out.2]
              exact bodyPost_ret (results_out rfl _ _ w.heap.size _ _ rfl H9.out.1) rfl ⟨rfl, H9.out.2.below (HbW.out.trans (H8.out.2.below (by omega) HbW.out.size)) (Nat.le_refl _)⟩

            · refine' hold_step ?_ ?_ (fun J hJ => ?_)
              rotate_left 1
              · simp only [List.getElem?_toArray, List.getElem?_cons_zero, List.getElem?_cons_succ]; exact rfl
              · exact rfl
              go_simp
              refine (cmpInt_any _ _ _).mono ?_
              rintro e w41 ⟨rfl, hb41⟩
              have hK41 : KeptR (w.heap.size + 1) w7 w41 := hKd.trans (KeptR.of_below hb41)
              have hO41 := hOd.later hb41
              refine hJ _ _ hK41 ?_
              clear hJ J hb41
              try simp only [Act.put, List.setIfInBounds_toArray, List.set_cons_zero, List.set_cons_succ]
              refine' hold_sole ?_ ?_ (fun J hJ => ?_)
              rotate_left 1
              · simp only [List.getElem?_toArray, List.getElem?_cons_zero, List.getElem?_cons_succ]; exact rfl
              · exact rfl
              refine wp_load_oint _ rfl _ _ rfl hO41.c1 ?_
              refine hJ _ _ hK41 ?_
              clear hJ J
              try simp only [Act.put, List.setIfInBounds_toArray, List.set_cons_zero, List.set_cons_succ]
              refine' hold_sole ?_ ?_ (fun J hJ => ?_)
              rotate_left 1
              · simp only [List.getElem?_toArray, List.getElem?_cons_zero, List.getElem?_cons_succ]; exact rfl
              · exact rfl
              refine wp_build_two _ _ rfl _ _ rfl rfl ?_
              intro w42 hT42 hb42
              have hK42 := hK41.trans (KeptR.of_below hb42)
              have hO42 := hO41.later hb42
              refine hJ _ _ hK42 ?_
              clear hJ J hb42
              try simp only [Act.put, List.setIfInBounds_toArray, List.set_cons_zero, List.set_cons_succ]
              refine' hold_sole ?_ ?_ (fun J hJ => ?_)
              rotate_left 1
              · simp only [List.getElem?_toArray, List.getElem?_cons_zero, List.getElem?_cons_succ]; exact rfl
              · exact rfl
              go_simp
              refine (orInt_any _ _ _ _ hT42).mono ?_
              rintro e w43 ⟨rfl, hb43⟩
              have hK43 : KeptR (w.heap.size + 1) w7 w43 := hK42.trans (KeptR.of_below hb43)
              have hO43 := hO42.later hb43
              refine hJ _ _ hK43 ?_
              clear hJ J hb43
              try simp only [Act.put, List.setIfInBounds_toArray, List.set_cons_zero, List.set_cons_succ]
              repeat (first
                  | (refine' hold_skip ?_ ?_ ?_
                     rotate_left 1
                     · simp only [List.getElem?_toArray, List.getElem?_cons_zero, List.getElem?_cons_succ]; exact rfl
                     · exact rfl
                     simp only [Act.put, List.setIfInBounds_toArray, List.set_cons_zero, List.set_cons_succ])
                  | (refine' hold_want ?_ ?_ (fun J hJ => ?_)
                     rotate_left 1
                     · simp only [List.getElem?_toArray, List.getElem?_cons_zero, List.getElem?_cons_succ]; exact rfl
                     · exact rfl
                     first
                     | (refine quiet_extract _ _ rfl _ _ rfl rfl ?_; refine hJ _ ?_; clear hJ J; try simp only [Act.put, List.setIfInBounds_toArray, List.set_cons_zero, List.set_cons_succ])
                     | (go_big_quiet_op; refine hJ _ ?_; clear hJ J; try simp only [Act.put, List.setIfInBounds_toArray, List.set_cons_zero, List.set_cons_succ])))
              refine' hold_sole ?_ ?_ (fun J hJ => ?_)
              rotate_left 1
              · simp only [List.getElem?_toArray, List.getElem?_cons_zero, List.getElem?_cons_succ]; exact rfl
              · exact rfl
              refine wp_store_order _ _ rfl _ _ _ _ rfl rfl hO43 ?_
              intro w44 hO44 ho44
              have hK44 := hK43.trans (KeptR.of_only ho44)
              refine hJ _ _ hK44 ?_
              clear hJ J ho44
              try simp only [Act.put, List.setIfInBounds_toArray, List.set_cons_zero, List.set_cons_succ]
              refine hold_done ?_
              have H8 := Lib.hid (And.intro hO44 (H7.out.2.trans hK44))
              have hOy := H4.out.kept H8.out.2 (by omega)
              go_wp2_with (first
                | (refine wpList_load_out rfl _ rfl (w.heap.size + 1) _ _ rfl H8.out.1 ?_)
                | (refine wpList_store_out rfl _ _ rfl w.heap.size _ _ _ _ rfl rfl hOy ?_; intro w9 hO9 ho9; have H9 := Lib.hid (And.intro hO9 ho9); clear hO9 ho9)
                | fail)
              rw [← Hend.out.1, ← Hend.out.2, HN2.out.1, HN2.out.2]
              exact bodyPost_ret (results_out rfl _ _ w.heap.size _ _ rfl H9.out.1) rfl ⟨rfl, H9.out.2.below (HbW.out.trans (H8.out.2.below (by omega) HbW.out.size)) (Nat.le_refl _)⟩


          · refine' hold_step ?_ ?_ (fun J hJ => ?_)
            rotate_left 1
            · simp only [List.getElem?_toArray, List.getElem?_cons_zero, List.getElem?_cons_succ]; exact rfl
            · exact rfl
            go_simp
            refine (HD2.out _ hK34).mono ?_
            rintro e w45 ⟨rfl, hb45⟩
            have hK45 : KeptR (w.heap.size + 1) wr w45 := hK34.trans (KeptR.of_below hb45)
            have hO45 := hO34.later hb45
            refine hJ _ _ hK45 ?_
            clear hJ J hb45
            try simp only [Act.put, List.setIfInBounds_toArray, List.set_cons_zero, List.set_cons_succ]
            repeat (first
                | (refine' hold_skip ?_ ?_ ?_
                   rotate_left 1
                   · simp only [List.getElem?_toArray, List.getElem?_cons_zero, List.getElem?_cons_succ]; exact rfl
                   · exact rfl
                   simp only [Act.put, List.setIfInBounds_toArray, List.set_cons_zero, List.set_cons_succ])
                | (refine' hold_want ?_ ?_ (fun J hJ => ?_)
                   rotate_left 1
                   · simp only [List.getElem?_toArray, List.getElem?_cons_zero, List.getElem?_cons_succ]; exact rfl
                   · exact rfl
                   first
                   | (refine quiet_slice_vlo _ _ rfl _ _ _ rfl rfl hr1 ?_; refine hJ _ ?_; clear hJ J; try simp only [Act.put, List.setIfInBounds_toArray, List.set_cons_zero, List.set_cons_succ])
                   | (refine quiet_slice_vlo _ _ rfl _ _ _ rfl rfl hr2 ?_; refine hJ _ ?_; clear hJ J; try simp only [Act.put, List.setIfInBounds_toArray, List.set_cons_zero, List.set_cons_succ])
                   | (refine quiet_extract _ _ rfl _ _ rfl rfl ?_; refine hJ _ ?_; clear hJ J; try simp only [Act.put, List.setIfInBounds_toArray, List.set_cons_zero, List.set_cons_succ])
                   | (go_big_quiet_op; refine hJ _ ?_; clear hJ J; try simp only [Act.put, List.setIfInBounds_toArray, List.set_cons_zero, List.set_cons_succ])))
            refine' hold_sole ?_ ?_ (fun J hJ => ?_)
            rotate_left 1
            · simp only [List.getElem?_toArray, List.getElem?_cons_zero, List.getElem?_cons_succ]; exact rfl
            · exact rfl
            refine wp_load_oint _ rfl _ _ rfl hO45.c0 ?_
            refine hJ _ _ hK45 ?_
            clear hJ J
            try simp only [Act.put, List.setIfInBounds_toArray, List.set_cons_zero, List.set_cons_succ]
            repeat (first
                | (refine' hold_skip ?_ ?_ ?_
                   rotate_left 1
                   · simp only [List.getElem?_toArray, List.getElem?_cons_zero, List.getElem?_cons_succ]; exact rfl
                   · exact rfl
                   simp only [Act.put, List.setIfInBounds_toArray, List.set_cons_zero, List.set_cons_succ])
                | (refine' hold_want ?_ ?_ (fun J hJ => ?_)
                   rotate_left 1
                   · simp only [List.getElem?_toArray, List.getElem?_cons_zero, List.getElem?_cons_succ]; exact rfl
                   · exact rfl
                   first
                   | (refine quiet_slice_vlo _ _ rfl _ _ _ rfl rfl hr1 ?_; refine hJ _ ?_; clear hJ J; try simp only [Act.put, List.setIfInBounds_toArray, List.set_cons_zero, List.set_cons_succ])
                   | (refine quiet_slice_vlo _ _ rfl _ _ _ rfl rfl hr2 ?_; refine hJ _ ?_; clear hJ J; try simp only [Act.put, List.setIfInBounds_toArray, List.set_cons_zero, List.set_cons_succ])
                   | (refine quiet_extract _ _ rfl _ _ rfl rfl ?_; refine hJ _ ?_; clear hJ J; try simp only [Act.put, List.setIfInBounds_toArray, List.set_cons_zero, List.set_cons_succ])
                   | (go_big_quiet_op; refine hJ _ ?_; clear hJ J; try simp only [Act.put, List.setIfInBounds_toArray, List.set_cons_zero, List.set_cons_succ])))
            refine' hold_sole ?_ ?_ (fun J hJ => ?_)
            rotate_left 1
            · simp only [List.getElem?_toArray, List.getElem?_cons_zero, List.getElem?_cons_succ]; exact rfl
            · exact rfl
            refine wp_store_long _ _ rfl _ _ _ _ rfl rfl hO45 ?_
            intro w46 hO46 ho46
            have hK46 := hK45.trans (KeptR.of_only ho46)
            refine hJ _ _ hK46 ?_
            clear hJ J ho46
            try simp only [Act.put, List.setIfInBounds_toArray, List.set_cons_zero, List.set_cons_succ]
            refine hold_done ?_
            obtain ⟨w7, rfl⟩ : ∃ w7, w7 = w46 := ⟨_, rfl⟩
            have H7 := Lib.hid (And.intro hO46 (hK.out.trans hK46))
            have hOx := hO46
            go_upto_region 8 with fail
            obtain ⟨wd, hwd⟩ : ∃ wd, wd = w7.drew := ⟨_, rfl⟩
            have hBd : Below w7.heap.size w7 wd := by rw [hwd]; exact (Below.refl _ _).drew
            have hKd : KeptR (w.heap.size + 1) w7 wd := KeptR.of_below hBd
            have hOd := (hO46).later hBd
            have hNE : Nonempty (HeldW (KeptR (w.heap.size + 1) w7)) := ⟨⟨wd, hKd⟩⟩
            refine wp_region_hold (KeptR (w.heap.size + 1) w7) (.plain 0 (.plain 2 (.plain 3 (.plain 4 (.plain 5 (.fork 1 (.sole 6 (.sole 7 (.sole 8 (.plain 9 (.sole 10 .done))))) 6 (.sole 1 (.sole 7 (.sole 8 (.plain 9 (.sole 10 .done))))))))))) (by rw [← hwd]; exact hKd) (by kernel_rfl) (by kernel_rfl) (fun c a d v w h => by cases d <;> exact h) ?_
            rw [← hwd]
            clear hwd
            repeat (first
                | (refine' hold_skip ?_ ?_ ?_
                   rotate_left 1
                   · simp only [List.getElem?_toArray, List.getElem?_cons_zero, List.getElem?_cons_succ]; exact rfl
                   · exact rfl
                   simp only [Act.put, List.setIfInBounds_toArray, List.set_cons_zero, List.set_cons_succ])
                | (refine' hold_want ?_ ?_ (fun J hJ => ?_)
                   rotate_left 1
                   · simp only [List.getElem?_toArray, List.getElem?_cons_zero, List.getElem?_cons_succ]; exact rfl
                   · exact rfl
                   first
                   | (refine quiet_extract _ _ rfl _ _ rfl rfl ?_; refine hJ _ ?_; clear hJ J; try simp only [Act.put, List.setIfInBounds_toArray, List.set_cons_zero, List.set_cons_succ])
                   | (go_big_quiet_op; refine hJ _ ?_; clear hJ J; try simp only [Act.put, List.setIfInBounds_toArray, List.set_cons_zero, List.set_cons_succ])))
            refine hold_fork ?_ ?_
            · refine' hold_step ?_ ?_ (fun J hJ => ?_)
              rotate_left 1
              · simp only [List.getElem?_toArray, List.getElem?_cons_zero, List.getElem?_cons_succ]; exact rfl
              · exact rfl
              refine wp_load_oint _ rfl _ _ rfl hOd.c1 ?_
              refine hJ _ _ hKd ?_
              clear hJ J
              try simp only [Act.put, List.setIfInBounds_toArray, List.set_cons_zero, List.set_cons_succ]
              refine' hold_sole ?_ ?_ (fun J hJ => ?_)
              rotate_left 1
              · simp only [List.getElem?_toArray, List.getElem?_cons_zero, List.getElem?_cons_succ]; exact rfl
              · exact rfl
              go_simp
              refine (cmpInt_any _ _ _).mono ?_
              rintro e w47 ⟨rfl, hb47⟩
              have hK47 : KeptR (w.heap.size + 1) w7 w47 := hKd.trans (KeptR.of_below hb47)
              have hO47 := hOd.later hb47
              refine hJ _ _ hK47 ?_
              clear hJ J hb47
              try simp only [Act.put, List.setIfInBounds_toArray, List.set_cons_zero, List.set_cons_succ]
              refine' hold_sole ?_ ?_ (fun J hJ => ?_)
              rotate_left 1
              · simp only [List.getElem?_toArray, List.getElem?_cons_zero, List.getElem?_cons_succ]; exact rfl
              · exact rfl
              refine wp_build_two _ _ rfl _ _ rfl rfl ?_
              intro w48 hT48 hb48
              have hK48 := hK47.trans (KeptR.of_below hb48)
              have hO48 := hO47.later hb48
              refine hJ _ _ hK48 ?_
              clear hJ J hb48
              try simp only [Act.put, List.setIfInBounds_toArray, List.set_cons_zero, List.set_cons_succ]
              refine' hold_sole ?_ ?_ (fun J hJ => ?_)
              rotate_left 1
              · simp only [List.getElem?_toArray, List.getElem?_cons_zero, List.getElem?_cons_succ]; exact rfl
              · exact rfl
              go_simp
              refine (orInt_any _ _ _ _ hT48).mono ?_
              rintro e w49 ⟨rfl, hb49⟩
              have hK49 : KeptR (w.heap.size + 1) w7 w49 := hK48.trans (KeptR.of_below hb49)
              have hO49 := hO48.later hb49
              refine hJ _ _ hK49 ?_
              clear hJ J hb49
              try simp only [Act.put, List.setIfInBounds_toArray, List.set_cons_zero, List.set_cons_succ]
              repeat (first
                  | (refine' hold_skip ?_ ?_ ?_
                     rotate_left 1
                     · simp only [List.getElem?_toArray, List.getElem?_cons_zero, List.getElem?_cons_succ]; exact rfl
                     · exact rfl
                     simp only [Act.put, List.setIfInBounds_toArray, List.set_cons_zero, List.set_cons_succ])
                  | (refine' hold_want ?_ ?_ (fun J hJ => ?_)
                     rotate_left 1
                     · simp only [List.getElem?_toArray, List.getElem?_cons_zero, List.getElem?_cons_succ]; exact rfl
                     · exact rfl
                     first
                     | (refine quiet_extract _ _ rfl _ _ rfl rfl ?_; refine hJ _ ?_; clear hJ J; try simp only [Act.put, List.setIfInBounds_toArray, List.set_cons_zero, List.set_cons_succ])
                     | (go_big_quiet_op; refine hJ _ ?_; clear hJ J; try simp only [Act.put, List.setIfInBounds_toArray, List.set_cons_zero, List.set_cons_succ])))
              refine' hold_sole ?_ ?_ (fun J hJ => ?_)
              rotate_left 1
              · simp only [List.getElem?_toArray, List.getElem?_cons_zero, List.getElem?_cons_succ]; exact rfl
              · exact rfl
              refine wp_store_order _ _ rfl _ _ _ _ rfl rfl hO49 ?_
              intro w50 hO50 ho50
              have hK50 := hK49.trans (KeptR.of_only ho50)
              refine hJ _ _ hK50 ?_
              clear hJ J ho50
              try simp only [Act.put, List.setIfInBounds_toArray, List.set_cons_zero, List.set_cons_succ]
              refine hold_done ?_
              have H8 := Lib.hid (And.intro hO50 (H7.out.2.trans hK50))
              have hOy := H4.out.kept H8.out.2 (by omega)
              go_wp2_with (first
                | (refine wpList_load_out rfl _ rfl (w.heap.size + 1) _ _ rfl H8.out.1 ?_)
                | (refine wpList_store_out rfl _ _ rfl w.heap.size _ _ _ _ rfl rfl hOy ?_; intro w9 hO9 ho9; have H9 := Lib.hid (And.intro hO9 ho9); clear hO9 ho9)
                | fail)
              rw [← Hend.out.1, ← Hend.out.2, HN2.out.1, HN2.out.2]
              exact bodyPost_ret (results_out rfl _ _ w.heap.size _ _ rfl H9.out.1) rfl ⟨rfl, H9.out.2.below (HbW.out.trans (H8.out.2.below (by omega) HbW.out.size)) (Nat.le_refl _)⟩

            · refine' hold_step ?_ ?_ (fun J hJ => ?_)
              rotate_left 1
              · simp only [List.getElem?_toArray, List.getElem?_cons_zero, List.getElem?_cons_succ]; exact rfl
              · exact rfl
              go_simp
              refine (cmpInt_any _ _ _).mono ?_
              rintro e w51 ⟨rfl, hb51⟩
              have hK51 : KeptR (w.heap.size + 1) w7 w51 := hKd.trans (KeptR.of_below hb51)
              have hO51 := hOd.later hb51
              refine hJ _ _ hK51 ?_
              clear hJ J hb51
              try simp only [Act.put, List.setIfInBounds_toArray, List.set_cons_zero, List.set_cons_succ]
              refine' hold_sole ?_ ?_ (fun J hJ => ?_)
              rotate_left 1
              · simp only [List.getElem?_toArray, List.getElem?_cons_zero, List.getElem?_cons_succ]; exact rfl
              · exact rfl
              refine wp_load_oint _ rfl _ _ rfl hO51.c1 ?_
              refine hJ _ _ hK51 ?_
              clear hJ J
              try simp only [Act.put, List.setIfInBounds_toArray, List.set_cons_zero, List.set_cons_succ]
              refine' hold_sole ?_ ?_ (fun J hJ => ?_)
              rotate_left 1
              · simp only [List.getElem?_toArray, List.getElem?_cons_zero, List.getElem?_cons_succ]; exact rfl
              · exact rfl
              refine wp_build_two _ _ rfl _ _ rfl rfl ?_
              intro w52 hT52 hb52
              have hK52 := hK51.trans (KeptR.of_below hb52)
              have hO52 := hO51.later hb52
              refine hJ _ _ hK52 ?_
              clear hJ J hb52
              try simp only [Act.put, List.setIfInBounds_toArray, List.set_cons_zero, List.set_cons_succ]
              refine' hold_sole ?_ ?_ (fun J hJ => ?_)
              rotate_left 1
              · simp only [List.getElem?_toArray, List.getElem?_cons_zero, List.getElem?_cons_succ]; exact rfl
              · exact rfl
              go_simp
              refine (orInt_any _ _ _ _ hT52).mono ?_
              rintro e w53 ⟨rfl, hb53⟩
              have hK53 : KeptR (w.heap.size + 1) w7 w53 := hK52.trans (KeptR.of_below hb53)
              have hO53 := hO52.later hb53
              refine hJ _ _ hK53 ?_
              clear hJ J hb53
              try simp only [Act.put, List.setIfInBounds_toArray, List.set_cons_zero, List.set_cons_succ]
              repeat (first
                  | (refine' hold_skip ?_ ?_ ?_
                     rotate_left 1
                     · simp only [List.getElem?_toArray, List.getElem?_cons_zero, List.getElem?_cons_succ]; exact rfl
                     · exact rfl
                     simp only [Act.put, List.setIfInBounds_toArray, List.set_cons_zero, List.set_cons_succ])
                  | (refine' hold_want ?_ ?_ (fun J hJ => ?_)
                     rotate_left 1
                     · simp only [List.getElem?_toArray, List.getElem?_cons_zero, List.getElem?_cons_succ]; exact rfl
                     · exact rfl
                     first
                     | (refine quiet_extract _ _ rfl _ _ rfl rfl ?_; refine hJ _ ?_; clear hJ J; try simp only [Act.put, List.setIfInBounds_toArray, List.set_cons_zero, List.set_cons_succ])
                     | (go_big_quiet_op; refine hJ _ ?_; clear hJ J; try simp only [Act.put, List.setIfInBounds_toArray, List.set_cons_zero, List.set_cons_succ])))
              refine' hold_sole ?_ ?_ (fun J hJ => ?_)
              rotate_left 1
              · simp only [List.getElem?_toArray, List.getElem?_cons_zero, List.getElem?_cons_succ]; exact rfl
              · exact rfl
              refine wp_store_order _ _ rfl _ _ _ _ rfl rfl hO53 ?_
              intro w54 hO54 ho54
              have hK54 := hK53.trans (KeptR.of_only ho54)
              refine hJ _ _ hK54 ?_
              clear hJ J ho54
              try simp only [Act.put, List.setIfInBounds_toArray, List.set_cons_zero, List.set_cons_succ]
              refine hold_done ?_
              have H8 := Lib.hid (And.intro hO54 (H7.out.2.trans hK54))
              have hOy := H4.out.kept H8.out.2 (by omega)
              go_wp2_with (first
                | (refine wpList_load_out rfl _ rfl (w.heap.size + 1) _ _ rfl H8.out.1 ?_)
                | (refine wpList_store_out rfl _ _ rfl w.heap.size _ _ _ _ rfl rfl hOy ?_; intro w9 hO9 ho9; have H9 := Lib.hid (And.intro hO9 ho9); clear hO9 ho9)
                | fail)
              rw [← Hend.out.1, ← Hend.out.2, HN2.out.1, HN2.out.2]
              exact bodyPost_ret (results_out rfl _ _ w.heap.size _ _ rfl H9.out.1) rfl ⟨rfl, H9.out.2.below (HbW.out.trans (H8.out.2.below (by omega) HbW.out.size)) (Nat.le_refl _)⟩



    · have hd : decide ((j : Int) < nb) = false := by simp; omega
      have Hexit : Hid (o ≠ 0 ∨ j = l.length ∨ j = m.length) := Lib.hid (by
        have h1 := HN.out
        have h2 := HNb.out
        have h3 := HJ.out
        right
        omega)
      obtain ⟨r1, hr1, hd1⟩ := vals_drop (a := a1) (cap := c1) (i := j) HJ.out.1 HP.out.1
      obtain ⟨r2, hr2, hd2⟩ := vals_drop (a := a2) (cap := c2) (i := j) HJ.out.2 HP.out.2
      have HD1 := Lib.hid (fun w' (h : KeptR (w.heap.size + 1) wr w') => length_any (hd1 w' l HN.out.1.symm (HLs.out.1.kept HbW.out (hK.out.trans h) (Nat.le_succ _))))
      have HD2 := Lib.hid (fun w' (h : KeptR (w.heap.size + 1) wr w') => length_any (hd2 w' m HN.out.2.symm (HLs.out.2.kept HbW.out (hK.out.trans h) (Nat.le_succ _))))
      have Hend := Lib.hid (cmpAt_end hC.out Hexit.out)
      clear hd1 hd2
      generalize lens (l.drop j) = s1 at HD1 Hend
      generalize lens (m.drop j) = s2 at HD2 Hend
      go_upto_region 7 with fail
      obtain ⟨wd, hwd⟩ : ∃ wd, wd = wr.drew := ⟨_, rfl⟩
      have hBd : Below wr.heap.size wr wd := by rw [hwd]; exact (Below.refl _ _).drew
      have hKd : KeptR (w.heap.size + 1) wr wd := KeptR.of_below hBd
      have hOd := (hO.out).later hBd
      have hNE : Nonempty (HeldW (KeptR (w.heap.size + 1) wr)) := ⟨⟨wd, hKd⟩⟩
      refine wp_region_hold (KeptR (w.heap.size + 1) wr) (.plain 0 (.plain 2 (.plain 3 (.plain 4 (.plain 6 (.plain 7 (.plain 8 (.fork 1 (.sole 5 (.sole 9 (.plain 10 (.plain 11 (.plain 12 (.sole 13 .done)))))) 5 (.fork 1 (.sole 9 (.plain 10 (.plain 11 (.plain 12 (.sole 13 .done))))) 9 (.plain 10 (.sole 1 (.plain 11 (.plain 12 (.sole 13 .done)))))))))))))) (by rw [← hwd]; exact hKd) (by kernel_rfl) (by kernel_rfl) (fun c a d v w h => by cases d <;> exact h) ?_
      rw [← hwd]
      clear hwd
      repeat (first
          | (refine' hold_skip ?_ ?_ ?_
             rotate_left 1
             · simp only [List.getElem?_toArray, List.getElem?_cons_zero, List.getElem?_cons_succ]; exact rfl
             · exact rfl
             simp only [Act.put, List.setIfInBounds_toArray, List.set_cons_zero, List.set_cons_succ])
          | (refine' hold_want ?_ ?_ (fun J hJ => ?_)
             rotate_left 1
             · simp only [List.getElem?_toArray, List.getElem?_cons_zero, List.getElem?_cons_succ]; exact rfl
             · exact rfl
             first
             | (refine quiet_slice_vlo _ _ rfl _ _ _ rfl rfl hr1 ?_; refine hJ _ ?_; clear hJ J; try simp only [Act.put, List.setIfInBounds_toArray, List.set_cons_zero, List.set_cons_succ])
             | (refine quiet_slice_vlo _ _ rfl _ _ _ rfl rfl hr2 ?_; refine hJ _ ?_; clear hJ J; try simp only [Act.put, List.setIfInBounds_toArray, List.set_cons_zero, List.set_cons_succ])
             | (refine quiet_extract _ _ rfl _ _ rfl rfl ?_; refine hJ _ ?_; clear hJ J; try simp only [Act.put, List.setIfInBounds_toArray, List.set_cons_zero, List.set_cons_succ])
             | (go_big_quiet_op; refine hJ _ ?_; clear hJ J; try simp only [Act.put, List.setIfInBounds_toArray, List.set_cons_zero, List.set_cons_succ])))
      refine hold_fork ?_ ?_
      · refine' hold_step ?_ ?_ (fun J hJ => ?_)
        rotate_left 1
        · simp only [List.getElem?_toArray, List.getElem?_cons_zero, List.getElem?_cons_succ]; exact rfl
        · exact rfl
        refine wp_load_oint _ rfl _ _ rfl hOd.c0 ?_
        refine hJ _ _ hKd ?_
        clear hJ J
        try simp only [Act.put, List.setIfInBounds_toArray, List.set_cons_zero, List.set_cons_succ]
        refine' hold_sole ?_ ?_ (fun J hJ => ?_)
        rotate_left 1
        · simp only [List.getElem?_toArray, List.getElem?_cons_zero, List.getElem?_cons_succ]; exact rfl
        · exact rfl
        go_simp
        refine (HD1.out _ hKd).mono ?_
        rintro e w55 ⟨rfl, hb55⟩
        have hK55 : KeptR (w.heap.size + 1) wr w55 := hKd.trans (KeptR.of_below hb55)
        have hO55 := hOd.later hb55
        refine hJ _ _ hK55 ?_
        clear hJ J hb55
        try simp only [Act.put, List.setIfInBounds_toArray, List.set_cons_zero, List.set_cons_succ]
        refine' hold_sole ?_ ?_ (fun J hJ => ?_)
        rotate_left 1
        · simp only [List.getElem?_toArray, List.getElem?_cons_zero, List.getElem?_cons_succ]; exact rfl
        · exact rfl
        go_simp
        refine (HD2.out _ hK55).mono ?_
        rintro e w56 ⟨rfl, hb56⟩
        have hK56 : KeptR (w.heap.size + 1) wr w56 := hK55.trans (KeptR.of_below hb56)
        have hO56 := hO55.later hb56
        refine hJ _ _ hK56 ?_
        clear hJ J hb56
        try simp only [Act.put, List.setIfInBounds_toArray, List.set_cons_zero, List.set_cons_succ]
        repeat (first
            | (refine' hold_skip ?_ ?_ ?_
               rotate_left 1
               · simp only [List.getElem?_toArray, List.getElem?_cons_zero, List.getElem?_cons_succ]; exact rfl
               · exact rfl
               simp only [Act.put, List.setIfInBounds_toArray, List.set_cons_zero, List.set_cons_succ])
            | (refine' hold_want ?_ ?_ (fun J hJ => ?_)
               rotate_left 1
               · simp only [List.getElem?_toArray, List.getElem?_cons_zero, List.getElem?_cons_succ]; exact rfl
               · exact rfl
               first
               | (refine quiet_slice_vlo _ _ rfl _ _ _ rfl rfl hr1 ?_; refine hJ _ ?_; clear hJ J; try simp only [Act.put, List.setIfInBounds_toArray, List.set_cons_zero, List.set_cons_succ])
               | (refine quiet_slice_vlo _ _ rfl _ _ _ rfl rfl hr2 ?_; refine hJ _ ?_; clear hJ J; try simp only [Act.put, List.setIfInBounds_toArray, List.set_cons_zero, List.set_cons_succ])
               | (refine quiet_extract _ _ rfl _ _ rfl rfl ?_; refine hJ _ ?_; clear hJ J; try simp only [Act.put, List.setIfInBounds_toArray, List.set_cons_zero, List.set_cons_succ])
               | (go_big_quiet_op; refine hJ _ ?_; clear hJ J; try simp only [Act.put, List.setIfInBounds_toArray, List.set_cons_zero, List.set_cons_succ])))
        refine' hold_sole ?_ ?_ (fun J hJ => ?_)
        rotate_left 1
        · simp only [List.getElem?_toArray, List.getElem?_cons_zero, List.getElem?_cons_succ]; exact rfl
        · exact rfl
        refine wp_store_long _ _ rfl _ _ _ _ rfl rfl hO56 ?_
        intro w57 hO57 ho57
        have hK57 := hK56.trans (KeptR.of_only ho57)
        refine hJ _ _ hK57 ?_
        clear hJ J ho57
        try simp only [Act.put, List.setIfInBounds_toArray, List.set_cons_zero, List.set_cons_succ]
        refine hold_done ?_
        obtain ⟨w7, rfl⟩ : ∃ w7, w7 = w57 := ⟨_, rfl⟩
        have H7 := Lib.hid (And.intro hO57 (hK.out.trans hK57))
        have hOx := hO57
        go_upto_region 8 with fail
        obtain ⟨wd, hwd⟩ : ∃ wd, wd = w7.drew := ⟨_, rfl⟩
        have hBd : Below w7.heap.size w7 wd := by rw [hwd]; exact (Below.refl _ _).drew
        have hKd : KeptR (w.heap.size + 1) w7 wd := KeptR.of_below hBd
        have hOd := (hO57).later hBd
        have hNE : Nonempty (HeldW (KeptR (w.heap.size + 1) w7)) := ⟨⟨wd, hKd⟩⟩
        refine wp_region_hold (KeptR (w.heap.size + 1) w7) (.plain 0 (.plain 2 (.plain 3 (.plain 4 (.plain 5 (.fork 1 (.sole 6 (.sole 7 (.sole 8 (.plain 9 (.sole 10 .done))))) 6 (.sole 1 (.sole 7 (.sole 8 (.plain 9 (.sole 10 .done))))))))))) (by rw [← hwd]; exact hKd) (by kernel_rfl) (by kernel_rfl) (fun c a d v w h => by cases d <;> exact h) ?_
        rw [← hwd]
        clear hwd
        repeat (first
            | (refine' hold_skip ?_ ?_ ?_
               rotate_left 1
               · simp only [List.getElem?_toArray, List.getElem?_cons_zero, List.getElem?_cons_succ]; exact rfl
               · exact rfl
               simp only [Act.put, List.setIfInBounds_toArray, List.set_cons_zero, List.set_cons_succ])
            | (refine' hold_want ?_ ?_ (fun J hJ => ?_)
               rotate_left 1
               · simp only [List.getElem?_toArray, List.getElem?_cons_zero, List.getElem?_cons_succ]; exact rfl
               · exact rfl
               first
               | (refine quiet_extract _ _ rfl _ _ rfl rfl ?_; refine hJ _ ?_; clear hJ J; try simp only [Act.put, List.setIfInBounds_toArray, List.set_cons_zero, List.set_cons_succ])
               | (go_big_quiet_op; refine hJ _ ?_; clear hJ J; try simp only [Act.put, List.setIfInBounds_toArray, List.set_cons_zero, List.set_cons_succ])))
        refine hold_fork ?_ ?_
        · refine' hold_step ?_ ?_ (fun J hJ => ?_)
          rotate_left 1
          · simp only [List.getElem?_toArray, List.getElem?_cons_zero, List.getElem?_cons_succ]; exact rfl
          · exact rfl
          refine wp_load_oint _ rfl _ _ rfl hOd.c1 ?_
          refine hJ _ _ hKd ?_
          clear hJ J
          try simp only [Act.put, List.setIfInBounds_toArray, List.set_cons_zero, List.set_cons_succ]
          refine' hold_sole ?_ ?_ (fun J hJ => ?_)
          rotate_left 1
          · simp only [List.getElem?_toArray, List.getElem?_cons_zero, List.getElem?_cons_succ]; exact rfl
          · exact rfl
          go_simp
          refine (cmpInt_any _ _ _).mono ?_
          rintro e w58 ⟨rfl, hb58⟩
          have hK58 : KeptR (w.heap.size + 1) w7 w58 := hKd.trans (KeptR.of_below hb58)
          have hO58 := hOd.later hb58
          refine hJ _ _ hK58 ?_
          clear hJ J hb58
          try simp only [Act.put, List.setIfInBounds_toArray, List.set_cons_zero, List.set_cons_succ]
          refine' hold_sole ?_ ?_ (fun J hJ => ?_)
          rotate_left 1
          · simp only [List.getElem?_toArray, List.getElem?_cons_zero, List.getElem?_cons_succ]; exact rfl
          · exact rfl
          refine wp_build_two _ _ rfl _ _ rfl rfl ?_
          intro w59 hT59 hb59
          have hK59 := hK58.trans (KeptR.of_below hb59)
          have hO59 := hO58.later hb59
          refine hJ _ _ hK59 ?_
          clear hJ J hb59
          try simp only [Act.put, List.setIfInBounds_toArray, List.set_cons_zero, List.set_cons_succ]
          refine' hold_sole ?_ ?_ (fun J hJ => ?_)
          rotate_left 1
          · simp only [List.getElem?_toArray, List.getElem?_cons_zero, List.getElem?_cons_succ]; exact rfl
          · exact rfl
          go_simp
          refine (orInt_any _ _ _ _ hT59).mono ?_
          rintro e w60 ⟨rfl, hb60⟩
          have hK60 : KeptR (w.heap.size + 1) w7 w60 := hK59.trans (KeptR.of_below hb60)
          have hO60 := hO59.later hb60
          refine hJ _ _ hK60 ?_
          clear hJ J hb60
          try simp only [Act.put, List.setIfInBounds_toArray, List.set_cons_zero, List.set_cons_succ]
          repeat (first
              | (refine' hold_skip ?_ ?_ ?_
                 rotate_left 1
                 · simp only [List.getElem?_toArray, List.getElem?_cons_zero, List.getElem?_cons_succ]; exact rfl
                 · exact rfl
                 simp only [Act.put, List.setIfInBounds_toArray, List.set_cons_zero, List.set_cons_succ])
              | (refine' hold_want ?_ ?_ (fun J hJ => ?_)
                 rotate_left 1
                 · simp only [List.getElem?_toArray, List.getElem?_cons_zero, List.getElem?_cons_succ]; exact rfl
                 · exact rfl
                 first
                 | (refine quiet_extract _ _ rfl _ _ rfl rfl ?_; refine hJ _ ?_; clear hJ J; try simp only [Act.put, List.setIfInBounds_toArray, List.set_cons_zero, List.set_cons_succ])
                 | (go_big_quiet_op; refine hJ _ ?_; clear hJ J; try simp only [Act.put, List.setIfInBounds_toArray, List.set_cons_zero, List.set_cons_succ])))
          refine' hold_sole ?_ ?_ (fun J hJ => ?_)
          rotate_left 1
          · simp only [List.getElem?_toArray, List.getElem?_cons_zero, List.getElem?_cons_succ]; exact rfl
          · exact rfl
          refine wp_store_order _ _ rfl _ _ _ _ rfl rfl hO60 ?_
          intro w61 hO61 ho61
          have hK61 := hK60.trans (KeptR.of_only ho61)
          refine hJ _ _ hK61 ?_
          clear hJ J ho61
          try simp only [Act.put, List.setIfInBounds_toArray, List.set_cons_zero, List.set_cons_succ]
          refine hold_done ?_
          have H8 := Lib.hid (And.intro hO61 (H7.out.2.trans hK61))
          have hOy := H4.out.kept H8.out.2 (by omega)
          go_wp2_with (first
            | (refine wpList_load_out rfl _ rfl (w.heap.size + 1) _ _ rfl H8.out.1 ?_)
            | (refine wpList_store_out rfl _ _ rfl w.heap.size _ _ _ _ rfl rfl hOy ?_; intro w9 hO9 ho9; have H9 := Lib.hid (And.intro hO9 ho9); clear hO9 ho9)
            | fail)
          rw [← Hend.out.1, ← Hend.out.2, HN2.out.1, HN2.out.2]
          exact bodyPost_ret (results_out rfl _ _ w.heap.size _ _ rfl H9.out.1) rfl ⟨rfl, H9.out.2.below (HbW.out.trans (H8.out.2.below (by omega) HbW.out.size)) (Nat.le_refl _)⟩

        · refine' hold_step ?_ ?_ (fun J hJ => ?_)
          rotate_left 1
          · simp only [List.getElem?_toArray, List.getElem?_cons_zero, List.getElem?_cons_succ]; exact rfl
          · exact rfl
          go_simp
          refine (cmpInt_any _ _ _).mono ?_
          rintro e w62 ⟨rfl, hb62⟩
          have hK62 : KeptR (w.heap.size + 1) w7 w62 := hKd.trans (KeptR.of_below hb62)
          have hO62 := hOd.later hb62
          refine hJ _ _ hK62 ?_
          clear hJ J hb62
          try simp only [Act.put, List.setIfInBounds_toArray, List.set_cons_zero, List.set_cons_succ]
          refine' hold_sole ?_ ?_ (fun J hJ => ?_)
          rotate_left 1
          · simp only [List.getElem?_toArray, List.getElem?_cons_zero, List.getElem?_cons_succ]; exact rfl
          · exact rfl
          refine wp_load_oint _ rfl _ _ rfl hO62.c1 ?_
          refine hJ _ _ hK62 ?_
          clear hJ J
          try simp only [Act.put, List.setIfInBounds_toArray, List.set_cons_zero, List.set_cons_succ]
          refine' hold_sole ?_ ?_ (fun J hJ => ?_)
          rotate_left 1
          · simp only [List.getElem?_toArray, List.getElem?_cons_zero, List.getElem?_cons_succ]; exact rfl
          · exact rfl
          refine wp_build_two _ _ rfl _ _ rfl rfl ?_
          intro w63 hT63 hb63
          have hK63 := hK62.trans (KeptR.of_below hb63)
          have hO63 := hO62.later hb63
          refine hJ _ _ hK63 ?_
          clear hJ J hb63
          try simp only [Act.put, List.setIfInBounds_toArray, List.set_cons_zero, List.set_cons_succ]
          refine' hold_sole ?_ ?_ (fun J hJ => ?_)
          rotate_left 1
          · simp only [List.getElem?_toArray, List.getElem?_cons_zero, List.getElem?_cons_succ]; exact rfl
          · exact rfl
          go_simp
          refine (orInt_any _ _ _ _ hT63).mono ?_
          rintro e w64 ⟨rfl, hb64⟩
          have hK64 : KeptR (w.heap.size + 1) w7 w64 := hK63.trans (KeptR.of_below hb64)
          have hO64 := hO63.later hb64
          refine hJ _ _ hK64 ?_
          clear hJ J hb64
          try simp only [Act.put, List.setIfInBounds_toArray, List.set_cons_zero, List.set_cons_succ]
          repeat (first
              | (refine' hold_skip ?_ ?_ ?_
                 rotate_left 1
                 · simp only [List.getElem?_toArray, List.getElem?_cons_zero, List.getElem?_cons_succ]; exact rfl
                 · exact rfl
                 simp only [Act.put, List.setIfInBounds_toArray, List.set_cons_zero, List.set_cons_succ])
              | (refine' hold_want ?_ ?_ (fun J hJ => ?_)
                 rotate_left 1
                 · simp only [List.getElem?_toArray, List.getElem?_cons_zero, List.getElem?_cons_succ]; exact rfl
                 · exact rfl
                 first
                 | (refine quiet_extract _ _ rfl _ _ rfl rfl ?_; refine hJ _ ?_; clear hJ J; try simp only [Act.put, List.setIfInBounds_toArray, List.set_cons_zero, List.set_cons_succ])
                 | (go_big_quiet_op; refine hJ _ ?_; clear hJ J; try simp only [Act.put, List.setIfInBounds_toArray, List.set_cons_zero, List.set_cons_succ])))
          refine' hold_sole ?_ ?_ (fun J hJ => ?_)
          rotate_left 1
          · simp only [List.getElem?_toArray, List.getElem?_cons_zero, List.getElem?_cons_succ]; exact rfl
          · exact rfl
          refine wp_store_order _ _ rfl _ _ _ _ rfl rfl hO64 ?_
          intro w65 hO65 ho65
          have hK65 := hK64.trans (KeptR.of_only ho65)
          refine hJ _ _ hK65 ?_
          clear hJ J ho65
          try simp only [Act.put, List.setIfInBounds_toArray, List.set_cons_zero, List.set_cons_succ]
          refine hold_done ?_
          have H8 := Lib.hid (And.intro hO65 (H7.out.2.trans hK65))
          have hOy := H4.out.kept H8.out.2 (by omega)
          go_wp2_with (first
            | (refine wpList_load_out rfl _ rfl (w.heap.size + 1) _ _ rfl H8.out.1 ?_)
            | (refine wpList_store_out rfl _ _ rfl w.heap.size _ _ _ _ rfl rfl hOy ?_; intro w9 hO9 ho9; have H9 := Lib.hid (And.intro hO9 ho9); clear hO9 ho9)
            | fail)
          rw [← Hend.out.1, ← Hend.out.2, HN2.out.1, HN2.out.2]
          exact bodyPost_ret (results_out rfl _ _ w.heap.size _ _ rfl H9.out.1) rfl ⟨rfl, H9.out.2.below (HbW.out.trans (H8.out.2.below (by omega) HbW.out.size)) (Nat.le_refl _)⟩


      · refine' hold_step ?_ ?_ (fun J hJ => ?_)
        rotate_left 1
        · simp only [List.getElem?_toArray, List.getElem?_cons_zero, List.getElem?_cons_succ]; exact rfl
        · exact rfl
        go_simp
        refine (HD1.out _ hKd).mono ?_
        rintro e w66 ⟨rfl, hb66⟩
        have hK66 : KeptR (w.heap.size + 1) wr w66 := hKd.trans (KeptR.of_below hb66)
        have hO66 := hOd.later hb66
        refine hJ _ _ hK66 ?_
        clear hJ J hb66
        try simp only [Act.put, List.setIfInBounds_toArray, List.set_cons_zero, List.set_cons_succ]
        refine hold_fork ?_ ?_
        · refine' hold_step ?_ ?_ (fun J hJ => ?_)
          rotate_left 1
          · simp only [List.getElem?_toArray, List.getElem?_cons_zero, List.getElem?_cons_succ]; exact rfl
          · exact rfl
          refine wp_load_oint _ rfl _ _ rfl hO66.c0 ?_
          refine hJ _ _ hK66 ?_
          clear hJ J
          try simp only [Act.put, List.setIfInBounds_toArray, List.set_cons_zero, List.set_cons_succ]
          refine' hold_sole ?_ ?_ (fun J hJ => ?_)
          rotate_left 1
          · simp only [List.getElem?_toArray, List.getElem?_cons_zero, List.getElem?_cons_succ]; exact rfl
          · exact rfl
          go_simp
          refine (HD2.out _ hK66).mono ?_
          rintro e w67 ⟨rfl, hb67⟩
          have hK67 : KeptR (w.heap.size + 1) wr w67 := hK66.trans (KeptR.of_below hb67)
          have hO67 := hO66.later hb67
          refine hJ _ _ hK67 ?_
          clear hJ J hb67
          try simp only [Act.put, List.setIfInBounds_toArray, List.set_cons_zero, List.set_cons_succ]
          repeat (first
              | (refine' hold_skip ?_ ?_ ?_
                 rotate_left 1
                 · simp only [List.getElem?_toArray, List.getElem?_cons_zero, List.getElem?_cons_succ]; exact rfl
                 · exact rfl
                 simp only [Act.put, List.setIfInBounds_toArray, List.set_cons_zero, List.set_cons_succ])
              | (refine' hold_want ?_ ?_ (fun J hJ => ?_)
                 rotate_left 1
                 · simp only [List.getElem?_toArray, List.getElem?_cons_zero, List.getElem?_cons_succ]; exact rfl
                 · exact rfl
                 first
                 | (refine quiet_slice_vlo _ _ rfl _ _ _ rfl rfl hr1 ?_; refine hJ _ ?_; clear hJ J; try simp only [Act.put, List.setIfInBounds_toArray, List.set_cons_zero, List.set_cons_succ])
                 | (refine quiet_slice_vlo _ _ rfl _ _ _ rfl rfl hr2 ?_; refine hJ _ ?_; clear hJ J; try simp only [Act.put, List.setIfInBounds_toArray, List.set_cons_zero, List.set_cons_succ])
                 | (refine quiet_extract _ _ rfl _ _ rfl rfl ?_; refine hJ _ ?_; clear hJ J; try simp only [Act.put, List.setIfInBounds_toArray, List.set_cons_zero, List.set_cons_succ])
                 | (go_big_quiet_op; refine hJ _ ?_; clear hJ J; try simp only [Act.put, List.setIfInBounds_toArray, List.set_cons_zero, List.set_cons_succ])))
          refine' hold_sole ?_ ?_ (fun J hJ => ?_)
          rotate_left 1
          · simp only [List.getElem?_toArray, List.getElem?_cons_zero, List.getElem?_cons_succ]; exact rfl
          · exact rfl
          refine wp_store_long _ _ rfl _ _ _ _ rfl rfl hO67 ?_
          intro w68 hO68 ho68
          have hK68 := hK67.trans (KeptR.of_only ho68)
          refine hJ _ _ hK68 ?_
          clear hJ J ho68
          try simp only [Act.put, List.setIfInBounds_toArray, List.set_cons_zero, List.set_cons_succ]
          refine hold_done ?_
          obtain ⟨w7, rfl⟩ : ∃ w7, w7 = w68 := ⟨_, rfl⟩
          have H7 := Lib.hid (And.intro hO68 (hK.out.trans hK68))
          have hOx := hO68
          go_upto_region 8 with fail
          obtain ⟨wd, hwd⟩ : ∃ wd, wd = w7.drew := ⟨_, rfl⟩
          have hBd : Below w7.heap.size w7 wd := by rw [hwd]; exact (Below.refl _ _).drew
          have hKd : KeptR (w.heap.size + 1) w7 wd := KeptR.of_below hBd
          have hOd := (hO68).later hBd
          have hNE : Nonempty (HeldW (KeptR (w.heap.size + 1) w7)) := ⟨⟨wd, hKd⟩⟩
          refine wp_region_hold (KeptR (w.heap.size + 1) w7) (.plain 0 (.plain 2 (.plain 3 (.plain 4 (.plain 5 (.fork 1 (.sole 6 (.sole 7 (.sole 8 (.plain 9 (.sole 10 .done))))) 6 (.sole 1 (.sole 7 (.sole 8 (.plain 9 (.sole 10 .done))))))))))) (by rw [← hwd]; exact hKd) (by kernel_rfl) (by kernel_rfl) (fun c a d v w h => by cases d <;> exact h) ?_
          rw [← hwd]
          clear hwd
          repeat (first
              | (refine' hold_skip ?_ ?_ ?_
                 rotate_left 1
                 · simp only [List.getElem?_toArray, List.getElem?_cons_zero, List.getElem?_cons_succ]; exact rfl
                 · exact rfl
                 simp only [Act.put, List.setIfInBounds_toArray, List.set_cons_zero, List.set_cons_succ])
              | (refine' hold_want ?_ ?_ (fun J hJ => ?_)
                 rotate_left 1
                 · simp only [List.getElem?_toArray, List.getElem?_cons_zero, List.getElem?_cons_succ]; exact rfl
                 · exact rfl
                 first
                 | (refine quiet_extract _ _ rfl _ _ rfl rfl ?_; refine hJ _ ?_; clear hJ J; try simp only [Act.put, List.setIfInBounds_toArray, List.set_cons_zero, List.set_cons_succ])
                 | (go_big_quiet_op; refine hJ _ ?_; clear hJ J; try simp only [Act.put, List.setIfInBounds_toArray, List.set_cons_zero, List.set_cons_succ])))
          refine hold_fork ?_ ?_
          · refine' hold_step ?_ ?_ (fun J hJ => ?_)
            rotate_left 1
            · simp only [List.getElem?_toArray, List.getElem?_cons_zero, List.getElem?_cons_succ]; exact rfl
            · exact rfl
            refine wp_load_oint _ rfl _ _ rfl hOd.c1 ?_
            refine hJ _ _ hKd ?_
            clear hJ J
            try simp only [Act.put, List.setIfInBounds_toArray, List.set_cons_zero, List.set_cons_succ]
            refine' hold_sole ?_ ?_ (fun J hJ => ?_)
            rotate_left 1
            · simp only [List.getElem?_toArray, List.getElem?_cons_zero, List.getElem?_cons_succ]; exact rfl
            · exact rfl
            go_simp
            refine (cmpInt_any _ _ _).mono ?_
            rintro e w69 ⟨rfl, hb69⟩
            have hK69 : KeptR (w.heap.size + 1) w7 w69 := hKd.trans (KeptR.of_below hb69)
            have hO69 := hOd.later hb69
            refine hJ _ _ hK69 ?_
            clear hJ J hb69
            try simp only [Act.put, List.setIfInBounds_toArray, List.set_cons_zero, List.set_cons_succ]
            refine' hold_sole ?_ ?_ (fun J hJ => ?_)
            rotate_left 1
            · simp only [List.getElem?_toArray, List.getElem?_cons_zero, List.getElem?_cons_succ]; exact rfl
            · exact rfl
            refine wp_build_two _ _ rfl _ _ rfl rfl ?_
            intro w70 hT70 hb70
            have hK70 := hK69.trans (KeptR.of_below hb70)
            have hO70 := hO69.later hb70
            refine hJ _ _ hK70 ?_
            clear hJ J hb70
            try simp only [Act.put, List.setIfInBounds_toArray, List.set_cons_zero, List.set_cons_succ]
            refine' hold_sole ?_ ?_ (fun J hJ => ?_)
            rotate_left 1
            · simp only [List.getElem?_toArray, List.getElem?_cons_zero, List.getElem?_cons_succ]; exact rfl
            · exact rfl
            go_simp
            refine (orInt_any _ _ _ _ hT70).mono ?_
            rintro e w71 ⟨rfl, hb71⟩
            have hK71 : KeptR (w.heap.size + 1) w7 w71 := hK70.trans (KeptR.of_below hb71)
            have hO71 := hO70.later hb71
            refine hJ _ _ hK71 ?_
            clear hJ J hb71
            try simp only [Act.put, List.setIfInBounds_toArray, List.set_cons_zero, List.set_cons_succ]
            repeat (first
                | (refine' hold_skip ?_ ?_ ?_
                   rotate_left 1
                   · simp only [List.getElem?_toArray, List.getElem?_cons_zero, List.getElem?_cons_succ]; exact rfl
                   · exact rfl
                   simp only [Act.put, List.setIfInBounds_toArray, List.set_cons_zero, List.set_cons_succ])
                | (refine' hold_want ?_ ?_ (fun J hJ => ?_)
                   rotate_left 1
                   · simp only [List.getElem?_toArray, List.getElem?_cons_zero, List.getElem?_cons_succ]; exact rfl
                   · exact rfl
                   first
                   | (refine quiet_extract _ _ rfl _ _ rfl rfl ?_; refine hJ _ ?_; clear hJ J; try simp only [Act.put, List.setIfInBounds_toArray, List.set_cons_zero, List.set_cons_succ])
                   | (go_big_quiet_op; refine hJ _ ?_; clear hJ J; try simp only [Act.put, List.setIfInBounds_toArray, List.set_cons_zero, List.set_cons_succ])))
            refine' hold_sole ?_ ?_ (fun J hJ => ?_)
            rotate_left 1
            · simp only [List.getElem?_toArray, List.getElem?_cons_zero, List.getElem?_cons_succ]; exact rfl
            · exact rfl
            refine wp_store_order _ _ rfl _ _ _ _ rfl rfl hO71 ?_
            intro w72 hO72 ho72
            have hK72 := hK71.trans (KeptR.of_only ho72)
            refine hJ _ _ hK72 ?_
            clear hJ J ho72
            try simp only [Act.put, List.setIfInBounds_toArray, List.set_cons_zero, List.set_cons_succ]
            refine hold_done ?_
            have H8 := Lib.hid (And.intro hO72 (H7.out.2.trans hK72))
            have hOy := H4.out.kept H8.out.2 (by omega)
            go_wp2_with (first
              | (refine wpList_load_out rfl _ rfl (w.heap.size + 1) _ _ rfl H8.out.1 ?_)
              | (refine wpList_store_out rfl _ _ rfl w.heap.size _ _ _ _ rfl rfl hOy ?_; intro w9 hO9 ho9; have H9 := Lib.hid (And.intro hO9 ho9); clear hO9 ho9)
              | fail)
            rw [← Hend.out.1, ← Hend.out.2, HN2.out.1, HN2.out.2]
            exact bodyPost_ret (results_out rfl _ _ w.heap.size _ _ rfl H9.out.1) rfl ⟨rfl, H9.out.2.below (HbW.out.trans (H8.out.2.below (by omega) HbW.out.size)) (Nat.le_refl _)⟩

          · refine' hold_step ?_ ?_ (fun J hJ => ?_)
            rotate_left 1
            · simp only [List.getElem?_toArray, List.getElem?_cons_zero, List.getElem?_cons_succ]; exact rfl
            · exact rfl
            go_simp
            refine (cmpInt_any _ _ _).mono ?_
            rintro e w73 ⟨rfl, hb73⟩
            have hK73 : KeptR (w.heap.size + 1) w7 w73 := hKd.trans (KeptR.of_below hb73)
            have hO73 := hOd.later hb73
            refine hJ _ _ hK73 ?_
            clear hJ J hb73
            try simp only [Act.put, List.setIfInBounds_toArray, List.set_cons_zero, List.set_cons_succ]
            refine' hold_sole ?_ ?_ (fun J hJ => ?_)
            rotate_left 1
            · simp only [List.getElem?_toArray, List.getElem?_cons_zero, List.getElem?_cons_succ]; exact rfl
            · exact rfl
            refine wp_load_oint _ rfl _ _ rfl hO73.c1 ?_
            refine hJ _ _ hK73 ?_
            clear hJ J
            try simp only [Act.put, List.setIfInBounds_toArray, List.set_cons_zero, List.set_cons_succ]
            refine' hold_sole ?_ ?_ (fun J hJ => ?_)
            rotate_left 1
            · simp only [List.getElem?_toArray, List.getElem?_cons_zero, List.getElem?_cons_succ]; exact rfl
            · exact rfl
            refine wp_build_two _ _ rfl _ _ rfl rfl ?_
            intro w74 hT74 hb74
            have hK74 := hK73.trans (KeptR.of_below hb74)
            have hO74 := hO73.later hb74
            refine hJ _ _ hK74 ?_
            clear hJ J hb74
            try simp only [Act.put, List.setIfInBounds_toArray, List.set_cons_zero, List.set_cons_succ]
            refine' hold_sole ?_ ?_ (fun J hJ => ?_)
            rotate_left 1
            · simp only [List.getElem?_toArray, List.getElem?_cons_zero, List.getElem?_cons_succ]; exact rfl
            · exact rfl
            go_simp
            refine (orInt_any _ _ _ _ hT74).mono ?_
            rintro e w75 ⟨rfl, hb75⟩
            have hK75 : KeptR (w.heap.size + 1) w7 w75 := hK74.trans (KeptR.of_below hb75)
            have hO75 := hO74.later hb75
            refine hJ _ _ hK75 ?_
            clear hJ J hb75
            try simp only [Act.put, List.setIfInBounds_toArray, List.set_cons_zero, List.set_cons_succ]
            repeat (first
                | (refine' hold_skip ?_ ?_ ?_
                   rotate_left 1
                   · simp only [List.getElem?_toArray, List.getElem?_cons_zero, List.getElem?_cons_succ]; exact rfl
                   · exact rfl
                   simp only [Act.put, List.setIfInBounds_toArray, List.set_cons_zero, List.set_cons_succ])
                | (refine' hold_want ?_ ?_ (fun J hJ => ?_)
                   rotate_left 1
                   · simp only [List.getElem?_toArray, List.getElem?_cons_zero, List.getElem?_cons_succ]; exact rfl
                   · exact rfl
                   first
                   | (refine quiet_extract _ _ rfl _ _ rfl rfl ?_; refine hJ _ ?_; clear hJ J; try simp only [Act.put, List.setIfInBounds_toArray, List.set_cons_zero, List.set_cons_succ])
                   | (go_big_quiet_op; refine hJ _ ?_; clear hJ J; try simp only [Act.put, List.setIfInBounds_toArray, List.set_cons_zero, List.set_cons_succ])))
            refine' hold_sole ?_ ?_ (fun J hJ => ?_)
            rotate_left 1
            · simp only [List.getElem?_toArray, List.getElem?_cons_zero, List.getElem?_cons_succ]; exact rfl
            · exact rfl
            refine wp_store_order _ _ rfl _ _ _ _ rfl rfl hO75 ?_
            intro w76 hO76 ho76
            have hK76 := hK75.trans (KeptR.of_only ho76)
            refine hJ _ _ hK76 ?_
            clear hJ J ho76
            try simp only [Act.put, List.setIfInBounds_toArray, List.set_cons_zero, List.set_cons_succ]
            refine hold_done ?_
            have H8 := Lib.hid (And.intro hO76 (H7.out.2.trans hK76))
            have hOy := H4.out.kept H8.out.2 (by omega)
            go_wp2_with (first
              | (refine wpList_load_out rfl _ rfl (w.heap.size + 1) _ _ rfl H8.out.1 ?_)
              | (refine wpList_store_out rfl _ _ rfl w.heap.size _ _ _ _ rfl rfl hOy ?_; intro w9 hO9 ho9; have H9 := Lib.hid (And.intro hO9 ho9); clear hO9 ho9)
              | fail)
            rw [← Hend.out.1, ← Hend.out.2, HN2.out.1, HN2.out.2]
            exact bodyPost_ret (results_out rfl _ _ w.heap.size _ _ rfl H9.out.1) rfl ⟨rfl, H9.out.2.below (HbW.out.trans (H8.out.2.below (by omega) HbW.out.size)) (Nat.le_refl _)⟩


        · refine' hold_step ?_ ?_ (fun J hJ => ?_)
          rotate_left 1
          · simp only [List.getElem?_toArray, List.getElem?_cons_zero, List.getElem?_cons_succ]; exact rfl
          · exact rfl
          go_simp
          refine (HD2.out _ hK66).mono ?_
          rintro e w77 ⟨rfl, hb77⟩
          have hK77 : KeptR (w.heap.size + 1) wr w77 := hK66.trans (KeptR.of_below hb77)
          have hO77 := hO66.later hb77
          refine hJ _ _ hK77 ?_
          clear hJ J hb77
          try simp only [Act.put, List.setIfInBounds_toArray, List.set_cons_zero, List.set_cons_succ]
          repeat (first
              | (refine' hold_skip ?_ ?_ ?_
                 rotate_left 1
                 · simp only [List.getElem?_toArray, List.getElem?_cons_zero, List.getElem?_cons_succ]; exact rfl
                 · exact rfl
                 simp only [Act.put, List.setIfInBounds_toArray, List.set_cons_zero, List.set_cons_succ])
              | (refine' hold_want ?_ ?_ (fun J hJ => ?_)
                 rotate_left 1
                 · simp only [List.getElem?_toArray, List.getElem?_cons_zero, List.getElem?_cons_succ]; exact rfl
                 · exact rfl
                 first
                 | (refine quiet_slice_vlo _ _ rfl _ _ _ rfl rfl hr1 ?_; refine hJ _ ?_; clear hJ J; try simp only [Act.put, List.setIfInBounds_toArray, List.set_cons_zero, List.set_cons_succ])
                 | (refine quiet_slice_vlo _ _ rfl _ _ _ rfl rfl hr2 ?_; refine hJ _ ?_; clear hJ J; try simp only [Act.put, List.setIfInBounds_toArray, List.set_cons_zero, List.set_cons_succ])
                 | (refine quiet_extract _ _ rfl _ _ rfl rfl ?_; refine hJ _ ?_; clear hJ J; try simp only [Act.put, List.setIfInBounds_toArray, List.set_cons_zero, List.set_cons_succ])
                 | (go_big_quiet_op; refine hJ _ ?_; clear hJ J; try simp only [Act.put, List.setIfInBounds_toArray, List.set_cons_zero, List.set_cons_succ])))
          refine' hold_sole ?_ ?_ (fun J hJ => ?_)
          rotate_left 1
          · simp only [List.getElem?_toArray, List.getElem?_cons_zero, List.getElem?_cons_succ]; exact rfl
          · exact rfl
          refine wp_load_oint _ rfl _ _ rfl hO77.c0 ?_
          refine hJ _ _ hK77 ?_
          clear hJ J
          try simp only [Act.put, List.setIfInBounds_toArray, List.set_cons_zero, List.set_cons_succ]
          repeat (first
              | (refine' hold_skip ?_ ?_ ?_
                 rotate_left 1
                 · simp only [List.getElem?_toArray, List.getElem?_cons_zero, List.getElem?_cons_succ]; exact rfl
                 · exact rfl
                 simp only [Act.put, List.setIfInBounds_toArray, List.set_cons_zero, List.set_cons_succ])
              | (refine' hold_want ?_ ?_ (fun J hJ => ?_)
                 rotate_left 1
                 · simp only [List.getElem?_toArray, List.getElem?_cons_zero, List.getElem?_cons_succ]; exact rfl
                 · exact rfl
                 first
                 | (refine quiet_slice_vlo _ _ rfl _ _ _ rfl rfl hr1 ?_; refine hJ _ ?_; clear hJ J; try simp only [Act.put, List.setIfInBounds_toArray, List.set_cons_zero, List.set_cons_succ])
                 | (refine quiet_slice_vlo _ _ rfl _ _ _ rfl rfl hr2 ?_; refine hJ _ ?_; clear hJ J; try simp only [Act.put, List.setIfInBounds_toArray, List.set_cons_zero, List.set_cons_succ])
                 | (refine quiet_extract _ _ rfl _ _ rfl rfl ?_; refine hJ _ ?_; clear hJ J; try simp only [Act.put, List.setIfInBounds_toArray, List.set_cons_zero, List.set_cons_succ])
                 | (go_big_quiet_op; refine hJ _ ?_; clear hJ J; try simp only [Act.put, List.setIfInBounds_toArray, List.set_cons_zero, List.set_cons_succ])))
          refine' hold_sole ?_ ?_ (fun J hJ => ?_)
          rotate_left 1
          · simp only [List.getElem?_toArray, List.getElem?_cons_zero, List.getElem?_cons_succ]; exact rfl
          · exact rfl
          refine wp_store_long _ _ rfl _ _ _ _ rfl rfl hO77 ?_
          intro w78 hO78 ho78
          have hK78 := hK77.trans (KeptR.of_only ho78)
          refine hJ _ _ hK78 ?_
          clear hJ J ho78
          try simp only [Act.put, List.setIfInBounds_toArray, List.set_cons_zero, List.set_cons_succ]
          refine hold_done ?_
          obtain ⟨w7, rfl⟩ : ∃ w7, w7 = w78 := ⟨_, rfl⟩
          have H7 := Lib.hid (And.intro hO78 (hK.out.trans hK78))
          have hOx := hO78
          go_upto_region 8 with fail
          obtain ⟨wd, hwd⟩ : ∃ wd, wd = w7.drew := ⟨_, rfl⟩
          have hBd : Below w7.heap.size w7 wd := by rw [hwd]; exact (Below.refl _ _).drew
          have hKd : KeptR (w.heap.size + 1) w7 wd := KeptR.of_below hBd
          have hOd := (hO78).later hBd
          have hNE : Nonempty (HeldW (KeptR (w.heap.size + 1) w7)) := ⟨⟨wd, hKd⟩⟩
          refine wp_region_hold (KeptR (w.heap.size + 1) w7) (.plain 0 (.plain 2 (.plain 3 (.plain 4 (.plain 5 (.fork 1 (.sole 6 (.sole 7 (.sole 8 (.plain 9 (.sole 10 .done))))) 6 (.sole 1 (.sole 7 (.sole 8 (.plain 9 (.sole 10 .done))))))))))) (by rw [← hwd]; exact hKd) (by kernel_rfl) (by kernel_rfl) (fun c a d v w h => by cases d <;> exact h) ?_
          rw [← hwd]
          clear hwd
          repeat (first
              | (refine' hold_skip ?_ ?_ ?_
                 rotate_left 1
                 · simp only [List.getElem?_toArray, List.getElem?_cons_zero, List.getElem?_cons_succ]; exact rfl
                 · exact rfl
                 simp only [Act.put, List.setIfInBounds_toArray, List.set_cons_zero, List.set_cons_succ])
              | (refine' hold_want ?_ ?_ (fun J hJ => ?_)
                 rotate_left 1
                 · simp only [List.getElem?_toArray, List.getElem?_cons_zero, List.getElem?_cons_succ]; exact rfl
                 · exact rfl
                 first
                 | (refine quiet_extract _ _ rfl _ _ rfl rfl ?_; refine hJ _ ?_; clear hJ J; try simp only [Act.put, List.setIfInBounds_toArray, List.set_cons_zero, List.set_cons_succ])
                 | (go_big_quiet_op; refine hJ _ ?_; clear hJ J; try simp only [Act.put, List.setIfInBounds_toArray, List.set_cons_zero, List.set_cons_succ])))
          refine hold_fork ?_ ?_
          · refine' hold_step ?_ ?_ (fun J hJ => ?_)
            rotate_left 1
            · simp only [List.getElem?_toArray, List.getElem?_cons_zero, List.getElem?_cons_succ]; exact rfl
            · exact rfl
            refine wp_load_oint _ rfl _ _ rfl hOd.c1 ?_
            refine hJ _ _ hKd ?_
            clear hJ J
            try simp only [Act.put, List.setIfInBounds_toArray, List.set_cons_zero, List.set_cons_succ]
            refine' hold_sole ?_ ?_ (fun J hJ => ?_)
            rotate_left 1
            · simp only [List.getElem?_toArray, List.getElem?_cons_zero, List.getElem?_cons_succ]; exact rfl
            · exact rfl
            go_simp
            refine (cmpInt_any _ _ _).mono ?_
            rintro e w79 ⟨rfl, hb79⟩
            have hK79 : KeptR (w.heap.size + 1) w7 w79 := hKd.trans (KeptR.of_below hb79)
            have hO79 := hOd.later hb79
            refine hJ _ _ hK79 ?_
            clear hJ J hb79
            try simp only [Act.put, List.setIfInBounds_toArray, List.set_cons_zero, List.set_cons_succ]
            refine' hold_sole ?_ ?_ (fun J hJ => ?_)
            rotate_left 1
            · simp only [List.getElem?_toArray, List.getElem?_cons_zero, List.getElem?_cons_succ]; exact rfl
            · exact rfl
            refine wp_build_two _ _ rfl _ _ rfl rfl ?_
            intro w80 hT80 hb80
            have hK80 := hK79.trans (KeptR.of_below hb80)
            have hO80 := hO79.later hb80
            refine hJ _ _ hK80 ?_
            clear hJ J hb80
            try simp only [Act.put, List.setIfInBounds_toArray, List.set_cons_zero, List.set_cons_succ]
            refine' hold_sole ?_ ?_ (fun J hJ => ?_)
            rotate_left 1
            · simp only [List.getElem?_toArray, List.getElem?_cons_zero, List.getElem?_cons_succ]; exact rfl
            · exact rfl
            go_simp
            refine (orInt_any _ _ _ _ hT80).mono ?_
            rintro e w81 ⟨rfl, hb81⟩
            have hK81 : KeptR (w.heap.size + 1) w7 w81 := hK80.trans (KeptR.of_below hb81)
            have hO81 := hO80.later hb81
            refine hJ _ _ hK81 ?_
            clear hJ J hb81
            try simp only [Act.put, List.setIfInBounds_toArray, List.set_cons_zero, List.set_cons_succ]
            repeat (first
                | (refine' hold_skip ?_ ?_ ?_
                   rotate_left 1
                   · simp only [List.getElem?_toArray, List.getElem?_cons_zero, List.getElem?_cons_succ]; exact rfl
                   · exact rfl
                   simp only [Act.put, List.setIfInBounds_toArray, List.set_cons_zero, List.set_cons_succ])
                | (refine' hold_want ?_ ?_ (fun J hJ => ?_)
                   rotate_left 1
                   · simp only [List.getElem?_toArray, List.getElem?_cons_zero, List.getElem?_cons_succ]; exact rfl
                   · exact rfl
                   first
                   | (refine quiet_extract _ _ rfl _ _ rfl rfl ?_; refine hJ _ ?_; clear hJ J; try simp only [Act.put, List.setIfInBounds_toArray, List.set_cons_zero, List.set_cons_succ])
                   | (go_big_quiet_op; refine hJ _ ?_; clear hJ J; try simp only [Act.put, List.setIfInBounds_toArray, List.set_cons_zero, List.set_cons_succ])))
            refine' hold_sole ?_ ?_ (fun J hJ => ?_)
            rotate_left 1
            · simp only [List.getElem?_toArray, List.getElem?_cons_zero, List.getElem?_cons_succ]; exact rfl
            · exact rfl
            refine wp_store_order _ _ rfl _ _ _ _ rfl rfl hO81 ?_
            intro w82 hO82 ho82
            have hK82 := hK81.trans (KeptR.of_only ho82)
            refine hJ _ _ hK82 ?_
            clear hJ J ho82
            try simp only [Act.put, List.setIfInBounds_toArray, List.set_cons_zero, List.set_cons_succ]
            refine hold_done ?_
            have H8 := Lib.hid (And.intro hO82 (H7.out.2.trans hK82))
            have hOy := H4.out.kept H8.out.2 (by omega)
            go_wp2_with (first
              | (refine wpList_load_out rfl _ rfl (w.heap.size + 1) _ _ rfl H8.out.1 ?_)
              | (refine wpList_store_out rfl _ _ rfl w.heap.size _ _ _ _ rfl rfl hOy ?_; intro w9 hO9 ho9; have H9 := Lib.hid (And.intro hO9 ho9); clear hO9 ho9)
              | fail)
            rw [← Hend.out.1, ← Hend.out.2, HN2.out.1, HN2.out.2]
            exact bodyPost_ret (results_out rfl _ _ w.heap.size _ _ rfl H9.out.1) rfl ⟨rfl, H9.out.2.below (HbW.out.trans (H8.out.2.below (by omega) HbW.out.size)) (Nat.le_refl _)⟩

          · refine' hold_step ?_ ?_ (fun J hJ => ?_)
            rotate_left 1
            · simp only [List.getElem?_toArray, List.getElem?_cons_zero, List.getElem?_cons_succ]; exact rfl
            · exact rfl
            go_simp
            refine (cmpInt_any _ _ _).mono ?_
            rintro e w83 ⟨rfl, hb83⟩
            have hK83 : KeptR (w.heap.size + 1) w7 w83 := hKd.trans (KeptR.of_below hb83)
            have hO83 := hOd.later hb83
            refine hJ _ _ hK83 ?_
            clear hJ J hb83
            try simp only [Act.put, List.setIfInBounds_toArray, List.set_cons_zero, List.set_cons_succ]
            refine' hold_sole ?_ ?_ (fun J hJ => ?_)
            rotate_left 1
            · simp only [List.getElem?_toArray, List.getElem?_cons_zero, List.getElem?_cons_succ]; exact rfl
            · exact rfl
            refine wp_load_oint _ rfl _ _ rfl hO83.c1 ?_
            refine hJ _ _ hK83 ?_
            clear hJ J
            try simp only [Act.put, List.setIfInBounds_toArray, List.set_cons_zero, List.set_cons_succ]
            refine' hold_sole ?_ ?_ (fun J hJ => ?_)
            rotate_left 1
            · simp only [List.getElem?_toArray, List.getElem?_cons_zero, List.getElem?_cons_succ]; exact rfl
            · exact rfl
            refine wp_build_two _ _ rfl _ _ rfl rfl ?_
            intro w84 hT84 hb84
            have hK84 := hK83.trans (KeptR.of_below hb84)
            have hO84 := hO83.later hb84
            refine hJ _ _ hK84 ?_
            clear hJ J hb84
            try simp only [Act.put, List.setIfInBounds_toArray, List.set_cons_zero, List.set_cons_succ]
            refine' hold_sole ?_ ?_ (fun J hJ => ?_)
            rotate_left 1
            · simp only [List.getElem?_toArray, List.getElem?_cons_zero, List.getElem?_cons_succ]; exact rfl
            · exact rfl
            go_simp
            refine (orInt_any _ _ _ _ hT84).mono ?_
            rintro e w85 ⟨rfl, hb85⟩
            have hK85 : KeptR (w.heap.size + 1) w7 w85 := hK84.trans (KeptR.of_below hb85)
            have hO85 := hO84.later hb85
            refine hJ _ _ hK85 ?_
            clear hJ J hb85
            try simp only [Act.put, List.setIfInBounds_toArray, List.set_cons_zero, List.set_cons_succ]
            repeat (first
                | (refine' hold_skip ?_ ?_ ?_
                   rotate_left 1
                   · simp only [List.getElem?_toArray, List.getElem?_cons_zero, List.getElem?_cons_succ]; exact rfl
                   · exact rfl
                   simp only [Act.put, List.setIfInBounds_toArray, List.set_cons_zero, List.set_cons_succ])
                | (refine' hold_want ?_ ?_ (fun J hJ => ?_)
                   rotate_left 1
                   · simp only [List.getElem?_toArray, List.getElem?_cons_zero, List.getElem?_cons_succ]; exact rfl
                   · exact rfl
                   first
                   | (refine quiet_extract _ _ rfl _ _ rfl rfl ?_; refine hJ _ ?_; clear hJ J; try simp only [Act.put, List.setIfInBounds_toArray, List.set_cons_zero, List.set_cons_succ])
                   | (go_big_quiet_op; refine hJ _ ?_; clear hJ J; try simp only [Act.put, List.setIfInBounds_toArray, List.set_cons_zero, List.set_cons_succ])))
            refine' hold_sole ?_ ?_ (fun J hJ => ?_)
            rotate_left 1
            · simp only [List.getElem?_toArray, List.getElem?_cons_zero, List.getElem?_cons_succ]; exact rfl
            · exact rfl
            refine wp_store_order _ _ rfl _ _ _ _ rfl rfl hO85 ?_
            intro w86 hO86 ho86
            have hK86 := hK85.trans (KeptR.of_only ho86)
            refine hJ _ _ hK86 ?_
            clear hJ J ho86
            try simp only [Act.put, List.setIfInBounds_toArray, List.set_cons_zero, List.set_cons_succ]
            refine hold_done ?_
            have H8 := Lib.hid (And.intro hO86 (H7.out.2.trans hK86))
            have hOy := H4.out.kept H8.out.2 (by omega)
            go_wp2_with (first
              | (refine wpList_load_out rfl _ rfl (w.heap.size + 1) _ _ rfl H8.out.1 ?_)
              | (refine wpList_store_out rfl _ _ rfl w.heap.size _ _ _ _ rfl rfl hOy ?_; intro w9 hO9 ho9; have H9 := Lib.hid (And.intro hO9 ho9); clear hO9 ho9)
              | fail)
            rw [← Hend.out.1, ← Hend.out.2, HN2.out.1, HN2.out.2]
            exact bodyPost_ret (results_out rfl _ _ w.heap.size _ _ rfl H9.out.1) rfl ⟨rfl, H9.out.2.below (HbW.out.trans (H8.out.2.below (by omega) HbW.out.size)) (Nat.le_refl _)⟩



end V
end Go.Proofs.Ytkekdfelcfoilaa
