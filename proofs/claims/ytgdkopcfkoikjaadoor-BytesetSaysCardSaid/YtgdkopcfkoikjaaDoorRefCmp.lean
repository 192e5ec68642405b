/- The walk of the document's own Cmp, and of own. -/
import Derived.Test.YtgdkopcfkoikjaaDoorRefRuns
import Derived.Test.YtgdkopcfkoikjaaDoorSetCmp
import Derived.Test.YtgdkopcfkoikjaaDoorFree
import Derived.Test.YtgdkopcfkoikjaaDoorRefEq
import Derived.Deep.DeepCutAuto
namespace Go.Proofs.YtgdkopcfkoikjaaDoor
open Go.RowKit

theorem bytesLess_cmp : ∀ (a b : List Nat), (∀ x ∈ a, x < 256) → (∀ x ∈ b, x < 256) → Op.bytesLess (toBytes a) (toBytes b) = decide (cmpNat a b = -1)
  | [], [], _, _ => rfl
  | [], _ :: _, _, _ => rfl
  | _ :: _, [], _, _ => rfl
  | a :: ar, b :: br, ha, hb => by
    have h1 : a < 256 := ha a (by simp)
    have h2 : b < 256 := hb b (by simp)
    have e1 : (UInt8.ofNat a < UInt8.ofNat b) = (a < b) := by simp [UInt8.lt_iff_toNat_lt, Nat.mod_eq_of_lt h1, Nat.mod_eq_of_lt h2]
    have e2 : (UInt8.ofNat a == UInt8.ofNat b) = (a == b) := by
      rw [Bool.eq_iff_iff, beq_iff_eq, beq_iff_eq, ← UInt8.toNat_inj]
      simp [Nat.mod_eq_of_lt h1, Nat.mod_eq_of_lt h2]
    show (decide (UInt8.ofNat a < UInt8.ofNat b) || (UInt8.ofNat a == UInt8.ofNat b && Op.bytesLess (toBytes ar) (toBytes br))) = _
    rw [bytesLess_cmp ar br (fun x hx => ha x (by simp [hx])) (fun x hx => hb x (by simp [hx])), cmpNat, e2]
    simp only [e1]
    by_cases h : a < b
    · simp [h]
    · by_cases h' : b < a
      · have : ¬ a = b := by omega
        simp [h, h', this]
      · have : a = b := by omega
        subst this
        simp
theorem toBytes_eq : ∀ (a b : List Nat), (∀ x ∈ a, x < 256) → (∀ x ∈ b, x < 256) → (toBytes a == toBytes b) = decide (cmpNat a b = 0)
  | [], [], _, _ => rfl
  | [], _ :: _, _, _ => rfl
  | _ :: _, [], _, _ => rfl
  | a :: ar, b :: br, ha, hb => by
    have h1 : a < 256 := ha a (by simp)
    have h2 : b < 256 := hb b (by simp)
    have e2 : (UInt8.ofNat a == UInt8.ofNat b) = (a == b) := by
      rw [Bool.eq_iff_iff, beq_iff_eq, beq_iff_eq, ← UInt8.toNat_inj]
      simp [Nat.mod_eq_of_lt h1, Nat.mod_eq_of_lt h2]
    show ((UInt8.ofNat a == UInt8.ofNat b) && (toBytes ar == toBytes br)) = _
    rw [toBytes_eq ar br (fun x hx => ha x (by simp [hx])) (fun x hx => hb x (by simp [hx])), cmpNat, e2]
    by_cases h : a < b
    · have : ¬ a = b := by omega
      simp [h, this]
    · by_cases h' : b < a
      · have : ¬ a = b := by omega
        simp [h, h', this]
      · have : a = b := by omega
        subst this
        simp
theorem strOf_nats (l : List Nat) : strOfNums (l.map fun (x : Nat) => (x : Int)) = ⟨(toBytes l).toArray⟩ := by
  apply ByteArray.ext
  apply Array.toList_inj.1
  rw [strOfNums_data]
  simp [toBytes]
theorem string_at {w : World} {a : Option Addr} {n cap : Nat} {l : List Nat} (h : BytesAt w a n cap l) : (convert 25 9 (.slice a n cap)).run Tryd.prog w = .ok (.string ⟨(toBytes l).toArray⟩) w := by
  obtain ⟨hn, hlt, _, hc⟩ := h
  by_cases h0 : n = 0
  · subst h0
    have : l = [] := List.length_eq_zero_iff.1 hn.symm
    subst this
    cases a with
    | none => exact run_convert_bytes_nil _ _ _ Tryd.underlying25 Tryd.underlying5 _ _ _ Tryd.underlying9
    | some a =>
      rw [run_convert_bytes_string w _ _ _ _ _ _ Tryd.underlying25 Tryd.underlying5 Tryd.underlying9]
      simp [Conv.bytesToString, loadCells, toBytes]
      rfl
  · rcases hc with h | ⟨b, off, rfl, _, _, hcell⟩
    · exact absurd h h0
    · rw [← strOf_nats]
      refine run_convert_bytes_arg _ _ _ Tryd.underlying25 Tryd.underlying5 b off n cap _ (by simp [hn]) (fun i hi => ?_) _ Tryd.underlying9
      rw [hcell i hi]
      simp [u8v, List.getD_eq_getElem?_getD, List.getElem?_map]
      rw [List.getElem?_eq_getElem (by omega)]
      rfl
theorem quiet_string {o : Oper} {a : Act} {C : World → Prop} {K : Act → Prop} (x : Operand) (ho : o.op = .convert 25 9 x) (p : Option Addr) (n cap : Nat) (hx : a.eval x = .slice p n cap) (l : List Nat)
    (h : ∀ w, C w → BytesAt w p n cap l) (hK : K (a.put o.dst (.string ⟨(toBytes l).toArray⟩))) : o.quiet Tryd.prog a C K :=
  ⟨.string ⟨(toBytes l).toArray⟩, fun w hw => by
    unfold Oper.quietAt execOp
    simp only [ho, hx, Sem.run_bind, Sem.run_pure, Result.andThen_ok, string_at (h w hw)]
    exact ⟨rfl, rfl⟩, hK⟩
theorem quiet_load_ref {o : Oper} {a : Act} {C : World → Prop} {K : Act → Prop} (x : Operand) (ho : o.op = .load 28 x) (g : Nat) (hx : a.eval x = .pointer (some ⟨g, 0, none⟩)) (f : Nat → Bool)
    (h : ∀ w, C w → BAt w g f) (hK : K (a.put o.dst (BV f))) : o.quiet Tryd.prog a C K :=
  ⟨BV f, fun w hw => by
    unfold Oper.quietAt execOp
    simp only [ho, hx, Instr.loadAt, Instr.sureAddr, Sem.run_bind, Sem.run_pure, Result.andThen_ok, loadRef (h w hw)]
    exact ⟨rfl, rfl⟩, hK⟩
theorem refList_at (s : BitVec 256) (w : World) : Calls Tryd.prog 20 #[BV s.getLsbD] w (ListAt w (elems s)) := by
  refine (refList_any s.getLsbD w).mono ?_
  rintro e w' ⟨v, rfl, hown, hb⟩
  rw [below_all] at hown
  obtain ⟨a, c, rfl⟩ := owns_form hown
  exact ⟨a, c, rfl, hb, fun w2 h2 => bytesAt_of_owns hown (fun x hx => ((mem_elems s x).1 hx).1) h2⟩
set_option maxHeartbeats 2000000 in
theorem refCmp_any (s t : BitVec 256) (w : World) : Calls Tryd.prog 18 #[BV s.getLsbD, BV t.getLsbD] w fun e w' => e = .returned (.int .i64 (cmpNat (elems s) (elems t))) ∧ Below w.heap.size w w' := by
  have hlS : ∀ x ∈ elems s, x < 256 := fun x hx => ((mem_elems s x).1 hx).1
  have hlT : ∀ x ∈ elems t, x < 256 := fun x hx => ((mem_elems t x).1 hx).1
  have hless := bytesLess_cmp (elems s) (elems t) hlS hlT
  have heq := toBytes_eq (elems s) (elems t) hlS hlT
  have hrg := cmpNat_range (elems s) (elems t)
  obtain ⟨c, hc⟩ : ∃ c, c = cmpNat (elems s) (elems t) := ⟨_, rfl⟩
  rw [← hc] at hless heq hrg
  rw [← hc]
  have hls := refList_at s
  have hlt := refList_at t
  obtain ⟨l, hl⟩ : ∃ l, l = elems s := ⟨_, rfl⟩
  obtain ⟨m, hm⟩ : ∃ m, m = elems t := ⟨_, rfl⟩
  rw [← hl] at hless heq hls
  rw [← hm] at hless heq hlt
  obtain ⟨S, hS⟩ : ∃ S, S = toBytes l := ⟨_, rfl⟩
  obtain ⟨T, hT⟩ : ∃ T, T = toBytes m := ⟨_, rfl⟩
  rw [← hS, ← hT] at hless heq
  have HS := Lib.hid hS
  have HT := Lib.hid hT
  clear hlS hlT hc hl hm hS hT
  go_enter Tryd.func18, Tryd.ntmps18
  have b0 : BAt ((w.alloc (.cells (bc s.getLsbD) 28)).alloc (.cells (bc t.getLsbD) 28)) w.heap.size s.getLsbD := (BAt.start w _ _ rfl _ rfl).alloc _
  have b1 : BAt ((w.alloc (.cells (bc s.getLsbD) 28)).alloc (.cells (bc t.getLsbD) 28)) (w.heap.size + 1) t.getLsbD := BAt.start _ _ _ rfl _ (by simp)
  have hB : Below w.heap.size w ((w.alloc (.cells (bc s.getLsbD) 28)).alloc (.cells (bc t.getLsbD) 28)) := ((Below.refl _ _).alloc (Nat.le_refl _) _).alloc (by simp) _
  go_upto_region 1 with fail
  generalize (w.alloc (.cells (bc s.getLsbD) 28)).alloc (.cells (bc t.getLsbD) 28) = w1 at *
  refine wp_region_eager (.plain 0 (.plain 3 (.sole 1 (.plain 2 (.sole 4 (.plain 5 (.plain 6 (.plain 7 .done)))))))) (W0 := w1) (Below.refl _ _) (by kernel_rfl) (by kernel_rfl) (fun c a d v w h => by cases d <;> exact h) ?_
  have hcur := (Below.refl w1.heap.size w1).drew
  refine' eager_want ?_ ?_ (fun K hK => ?_)
  rotate_left 1
  · simp only [List.getElem?_toArray, List.getElem?_cons_zero, List.getElem?_cons_succ]; exact rfl
  · exact rfl
  refine quiet_load_ref _ rfl _ rfl s.getLsbD (fun w' hw' => by obtain ⟨L, rfl⟩ := hw'; exact b0.below L.ok b0.lt) ?_
  refine hK _ ?_
  clear hK K
  try simp only [Act.put, List.setIfInBounds_toArray, List.set_cons_zero, List.set_cons_succ]
  refine' eager_want ?_ ?_ (fun K hK => ?_)
  rotate_left 1
  · simp only [List.getElem?_toArray, List.getElem?_cons_zero, List.getElem?_cons_succ]; exact rfl
  · exact rfl
  refine quiet_load_ref _ rfl _ rfl t.getLsbD (fun w' hw' => by obtain ⟨L, rfl⟩ := hw'; exact b1.below L.ok b1.lt) ?_
  refine hK _ ?_
  clear hK K
  try simp only [Act.put, List.setIfInBounds_toArray, List.set_cons_zero, List.set_cons_succ]
  refine' eager_call_new ?_ ?_ (fun K hK => ?_)
  rotate_left 1
  · simp only [List.getElem?_toArray, List.getElem?_cons_zero, List.getElem?_cons_succ]; exact rfl
  · exact rfl
  go_simp
  refine (hls _).mono ?_
  rintro e w2 ⟨a2, c2, rfl, hb, hk2⟩
  refine hK _ _ hb ?_
  have hcur := hcur.trans (hb.mono hcur.size)
  clear hb
  clear hK K
  try simp only [Act.put, List.setIfInBounds_toArray, List.set_cons_zero, List.set_cons_succ]
  refine' eager_want ?_ ?_ (fun K hK => ?_)
  rotate_left 1
  · simp only [List.getElem?_toArray, List.getElem?_cons_zero, List.getElem?_cons_succ]; exact rfl
  · exact rfl
  refine quiet_string _ rfl _ _ _ rfl l (fun w' hw' => by obtain ⟨L, rfl⟩ := hw'; exact hk2 _ L.ok) ?_
  refine hK _ ?_
  clear hK K
  try simp only [Act.put, List.setIfInBounds_toArray, List.set_cons_zero, List.set_cons_succ]
  rw [← HS.out]
  refine' eager_call_new ?_ ?_ (fun K hK => ?_)
  rotate_left 1
  · simp only [List.getElem?_toArray, List.getElem?_cons_zero, List.getElem?_cons_succ]; exact rfl
  · exact rfl
  go_simp
  refine (hlt _).mono ?_
  rintro e w3 ⟨a3, c3, rfl, hb, hk3⟩
  refine hK _ _ hb ?_
  have hcur := hcur.trans (hb.mono hcur.size)
  clear hb
  clear hK K
  try simp only [Act.put, List.setIfInBounds_toArray, List.set_cons_zero, List.set_cons_succ]
  refine' eager_want ?_ ?_ (fun K hK => ?_)
  rotate_left 1
  · simp only [List.getElem?_toArray, List.getElem?_cons_zero, List.getElem?_cons_succ]; exact rfl
  · exact rfl
  refine quiet_string _ rfl _ _ _ rfl m (fun w' hw' => by obtain ⟨L, rfl⟩ := hw'; exact hk3 _ L.ok) ?_
  refine hK _ ?_
  clear hK K
  try simp only [Act.put, List.setIfInBounds_toArray, List.set_cons_zero, List.set_cons_succ]
  rw [← HT.out]
  refine' eager_want ?_ ?_ (fun K hK => ?_)
  rotate_left 1
  · simp only [List.getElem?_toArray, List.getElem?_cons_zero, List.getElem?_cons_succ]; exact rfl
  · exact rfl
  go_big_quiet_op
  refine hK _ ?_
  clear hK K
  refine' eager_want ?_ ?_ (fun K hK => ?_)
  rotate_left 1
  · simp only [List.getElem?_toArray, List.getElem?_cons_zero, List.getElem?_cons_succ]; exact rfl
  · exact rfl
  go_big_quiet_op
  refine hK _ ?_
  clear hK K
  refine eager_done ?_
  have hBE := hB.trans (hcur.mono hB.size)
  rcases hrg with rfl | rfl | rfl
  all_goals
    simp only [decide_true, decide_false, Int.reduceNeg, Int.reduceEq] at hless heq
    go_wp2_with fail
    go_ret
    exact ⟨rfl, hBE⟩
theorem own1_any (s : BitVec 256) (w : World) : Calls Tryd.prog 5 #[SV s] w fun e w' => e = .returned (BV s.getLsbD) ∧ Below w.heap.size w w' := by
  have hz := zeroRef
  go_enter Tryd.func5, Tryd.ntmps5
  go_wp2_with fail
  refine (from_any s _).mono ?_
  rintro e w1 ⟨rfl, hb1⟩
  have hR : BAt w1 (w.heap.size + 1) bNone := (BAt.start (w.alloc _) _ _ rfl _ (by simp)).below hb1 (by simp)
  have hB : Below w.heap.size w w1 := (((Below.refl _ _).alloc (Nat.le_refl _) _).alloc (by simp) _).trans (hb1.mono (by simp; omega))
  go_wp2_with (first | (refine wpList_store_row rfl 28 _ _ rfl (w.heap.size + 1) _ rfl rfl _ _ hR (infoRef' _) (by rw [bc_size, bc_size]) (bc_one _) ?_))
  refine bodyPost_ret (v := BV s.getLsbD) (results_cell_row Tryd.results5 _ _ (w.heap.size + 1) _ _ _ _ rfl (BAt.rowSame hR) Tryd.underlying28 rfl (infoRef' _)) rfl ⟨rfl, below_row hB (by omega) _⟩
end Go.Proofs.YtgdkopcfkoikjaaDoor
