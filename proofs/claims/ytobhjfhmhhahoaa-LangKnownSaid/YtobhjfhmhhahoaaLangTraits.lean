/- lang's traits: then, or, traitsOf; Null, First, walked. -/
import Derived.Test.YtobhjfhmhhahoaaLangTop
import Derived.Test.YtobhjfhmhhahoaaLangFacts
import Derived.Test.YtobhjfhmhhahoaaBlockMem
namespace Go.Proofs.Ytobhjfhmhhahoaa
namespace K
set_option maxRecDepth 100000
open Go.RowKit
abbrev TV (t : Tr) : Value := .agg #[.bool t.some, .bool t.null, .int .u64 (word t.first 0), .int .u64 (word t.first 1), .int .u64 (word t.first 2), .int .u64 (word t.first 3)]
theorem wz0 : word 0 0 = 0 := word_zero 0
theorem wz1 : word 0 1 = 0 := word_zero 1
theorem wz2 : word 0 2 = 0 := word_zero 2
theorem wz3 : word 0 3 = 0 := word_zero 3
theorem tv_no : TV .no = .agg #[.bool false, .bool false, .int .u64 0, .int .u64 0, .int .u64 0, .int .u64 0] := by
  show Value.agg #[.bool false, .bool false, .int .u64 (word 0 0), .int .u64 (word 0 1), .int .u64 (word 0 2), .int .u64 (word 0 3)] = _
  rw [wz0, wz1, wz2, wz3]; rfl
theorem infoTr : (Try.prog.info? 48).map (·.size) = some 6 := by kernel_rfl
/-- a store of traits into the call's own result -/
theorem wp_store_tr {o : Oper} {a : Act} {w : World} {K : Act → World → Prop} {Q : Exit → Act → World → Prop} (x y : Operand) (ho : o.op = .store 48 x y) (b : Nat) (cs ds : Array Value) (hx : a.eval x = .pointer (some ⟨b, 0, none⟩)) (hy : a.eval y = .agg ds)
    (hb : w.heap[b]? = some (.cells cs 48)) (hd : ds.size = 6) (hc : cs.size = 6) (h1 : (ds.all fun x => x.oneCell') = true) (hK : ∀ w', w'.heap[b]? = some (.cells ds 48) → Only b w w' → K (a.put o.dst undef) w') : o.wp Try.prog a w K Q := by
  refine wp_store_row _ _ _ ho b _ hx hy _ _ hb (by rw [hd]; exact infoTr) (by rw [hd, hc]) h1 (hK _ (setRow_heap w b _ _ _ _ hb) (only_row _ _ _))

theorem wpList_store_tr {ops : Array Oper} {rest : List Oper} {o : Oper} {a : Act} {w : World} {Q : Exit → Act → World → Prop} (hgd : o.guard = none) (x y : Operand) (ho : o.op = .store 48 x y) (b : Nat) (cs ds : Array Value) (hx : a.eval x = .pointer (some ⟨b, 0, none⟩)) (hy : a.eval y = .agg ds)
    (hb : w.heap[b]? = some (.cells cs 48)) (hd : ds.size = 6) (hc : cs.size = 6) (h1 : (ds.all fun x => x.oneCell') = true) (h : ∀ w', w'.heap[b]? = some (.cells ds 48) → Only b w w' → wpList Try.prog ops Q rest (a.put o.dst undef) w') : wpList Try.prog ops Q (o :: rest) a w :=
  wpList_store_row hgd _ _ _ ho b _ hx hy _ _ hb (by rw [hd]; exact infoTr) (by rw [hd, hc]) h1 (h _ (setRow_heap w b _ _ _ _ hb) (only_row _ _ _))
theorem results_tr {fn : Func} {p : Tmp} (h : fn.results = #[.cell p 48]) (tmps : Array Value) (w : World) (b : Nat) (cs : Array Value) (hp : tmps.getD p undef = .pointer (some ⟨b, 0, none⟩)) (hs : w.heap[b]? = some (.cells cs 48)) (hc : cs.size = 6) :
    (results fn tmps).run Try.prog w = .ok (.agg cs) w := results_cell_row h tmps w b _ _ _ _ hp hs Try.underlying48 rfl (show _ = some cs.size from by rw [hc]; exact infoTr)
set_option maxHeartbeats 4000000 in
theorem then_walk (t u : Tr) (w : World) : Calls Try.prog 33 #[TV t, TV u] w fun e w' => e = .returned (TV (t.thn u)) ∧ Below w.heap.size w w' := by
  obtain ⟨a1, a2, a3⟩ := t
  obtain ⟨b1, b2, b3⟩ := u
  have hor := or_any a3 b3
  have three : ∀ o1 o2 o3 : Obj, Below w.heap.size w (((w.alloc o1).alloc o2).alloc o3) := fun o1 o2 o3 => (((Below.refl _ _).alloc (Nat.le_refl _) _).alloc (by simp) _).alloc (by simp; omega) _
  have Hthree := Lib.hid three
  clear three
  by_cases hab : (a1 && b1) = true
  rotate_left 1
  · have e : (Tr.mk a1 a2 a3).thn ⟨b1, b2, b3⟩ = .no := by unfold Tr.thn; rw [if_neg hab]
    rw [e, tv_no]
    clear hor e
    cases a1 <;> cases b1 <;> first | (exact absurd rfl hab) | (
      clear hab
      go_enter Try.func33, Try.ntmps33
      go_wp2_with fail
      exact bodyPost_ret (v := .agg #[.bool false, .bool false, .int .u64 0, .int .u64 0, .int .u64 0, .int .u64 0]) (by simp [results, Try.results33, go_sem]) rfl ⟨rfl, Hthree.out _ _ _⟩)
  · rw [Bool.and_eq_true] at hab
    obtain ⟨rfl, rfl⟩ := hab
    cases a2 with
    | false =>
      rw [show (Tr.mk true false a3).thn ⟨true, b2, b3⟩ = ⟨true, false, a3⟩ from rfl]
      clear hor
      go_enter Try.func33, Try.ntmps33
      go_wp2_with fail
      refine bodyPost_ret (v := .agg #[.bool true, .bool false, .int .u64 (word a3 0), .int .u64 (word a3 1), .int .u64 (word a3 2), .int .u64 (word a3 3)]) (by simp [results, Try.results33, go_sem]) rfl ⟨rfl, ?_⟩
      repeat (first | exact Hthree.out _ _ _ | refine Below.setCell ?_ (by simp; try omega) _ | refine Below.alloc ?_ (by simp; try omega) _)
    | true =>
      rw [show (Tr.mk true true a3).thn ⟨true, b2, b3⟩ = ⟨true, b2, a3 ||| b3⟩ from rfl]
      obtain ⟨W, hW⟩ : ∃ W, W = (((w.alloc (.cells #[.bool true, .bool true, .int .u64 (word a3 0), .int .u64 (word a3 1), .int .u64 (word a3 2), .int .u64 (word a3 3)] 48)).alloc (.cells #[.bool true, .bool b2, .int .u64 (word b3 0), .int .u64 (word b3 1), .int .u64 (word b3 2), .int .u64 (word b3 3)] 48)).alloc (.cells #[.bool false, .bool false, .int .u64 0, .int .u64 0, .int .u64 0, .int .u64 0] 48)).alloc (.cells #[.int .u64 (word a3 0), .int .u64 (word a3 1), .int .u64 (word a3 2), .int .u64 (word a3 3)] 25) := ⟨_, rfl⟩
      have hbW : Below w.heap.size w W := by rw [hW]; exact (Hthree.out _ _ _).alloc (by simp; omega) _
      have hsW : W.heap.size = w.heap.size + 4 := by rw [hW]; simp
      have h1 : W.heap[w.heap.size + 1]? = some (.cells #[.bool true, .bool b2, .int .u64 (word b3 0), .int .u64 (word b3 1), .int .u64 (word b3 2), .int .u64 (word b3 3)] 48) := by
        have h := World.alloc_heap_new (w.alloc (.cells #[.bool true, .bool true, .int .u64 (word a3 0), .int .u64 (word a3 1), .int .u64 (word a3 2), .int .u64 (word a3 3)] 48)) (.cells #[.bool true, .bool b2, .int .u64 (word b3 0), .int .u64 (word b3 1), .int .u64 (word b3 2), .int .u64 (word b3 3)] 48)
        rw [World.size_alloc] at h
        rw [hW]
        exact (Below.heap_alloc _ _ _ (by simp)).trans ((Below.heap_alloc _ _ _ (by simp)).trans h)
      have h0 : W.heap[w.heap.size]? = some (.cells #[.bool true, .bool true, .int .u64 (word a3 0), .int .u64 (word a3 1), .int .u64 (word a3 2), .int .u64 (word a3 3)] 48) := by
        rw [hW]
        exact (Below.heap_alloc _ _ _ (by simp; omega)).trans ((Below.heap_alloc _ _ _ (by simp; omega)).trans ((Below.heap_alloc _ _ _ (by simp)).trans (World.alloc_heap_new w _)))
      have h2 : W.heap[w.heap.size + 2]? = some (.cells #[.bool false, .bool false, .int .u64 0, .int .u64 0, .int .u64 0, .int .u64 0] 48) := by
        have h := World.alloc_heap_new ((w.alloc (.cells #[.bool true, .bool true, .int .u64 (word a3 0), .int .u64 (word a3 1), .int .u64 (word a3 2), .int .u64 (word a3 3)] 48)).alloc (.cells #[.bool true, .bool b2, .int .u64 (word b3 0), .int .u64 (word b3 1), .int .u64 (word b3 2), .int .u64 (word b3 3)] 48)) (.cells #[.bool false, .bool false, .int .u64 0, .int .u64 0, .int .u64 0, .int .u64 0] 48)
        rw [World.size_alloc, World.size_alloc] at h
        rw [hW]
        exact (Below.heap_alloc _ _ _ (by simp)).trans h
      have h3 : W.heap[w.heap.size + 3]? = some (.cells #[.int .u64 (word a3 0), .int .u64 (word a3 1), .int .u64 (word a3 2), .int .u64 (word a3 3)] 25) := by
        have h := World.alloc_heap_new (((w.alloc (.cells #[.bool true, .bool true, .int .u64 (word a3 0), .int .u64 (word a3 1), .int .u64 (word a3 2), .int .u64 (word a3 3)] 48)).alloc (.cells #[.bool true, .bool b2, .int .u64 (word b3 0), .int .u64 (word b3 1), .int .u64 (word b3 2), .int .u64 (word b3 3)] 48)).alloc (.cells #[.bool false, .bool false, .int .u64 0, .int .u64 0, .int .u64 0, .int .u64 0] 48)) (.cells #[.int .u64 (word a3 0), .int .u64 (word a3 1), .int .u64 (word a3 2), .int .u64 (word a3 3)] 25)
        rw [World.size_alloc, World.size_alloc, World.size_alloc] at h
        rw [hW]; exact h
      have c0 : ∀ q, W.cell? ⟨w.heap.size, q, none⟩ = (#[.bool true, .bool true, .int .u64 (word a3 0), .int .u64 (word a3 1), .int .u64 (word a3 2), .int .u64 (word a3 3)])[q]? := cells_at h0
      have c1 : ∀ q, W.cell? ⟨w.heap.size + 1, q, none⟩ = (#[.bool true, .bool b2, .int .u64 (word b3 0), .int .u64 (word b3 1), .int .u64 (word b3 2), .int .u64 (word b3 3)])[q]? := cells_at h1
      have c3 : ∀ q, W.cell? ⟨w.heap.size + 3, q, none⟩ = (#[.int .u64 (word a3 0), .int .u64 (word a3 1), .int .u64 (word a3 2), .int .u64 (word a3 3)])[q]? := cells_at h3
      have H0 := Lib.hid h0
      have H1 := Lib.hid h1
      have H2 := Lib.hid h2
      have H3 := Lib.hid h3
      have HbW := Lib.hid hbW
      have HsW := Lib.hid hsW
      clear h0 h1 h2 h3 hbW hsW
      go_enter Try.func33, Try.ntmps33
      go_upto_region 4 with fail
      rw [show w.heap.size + 1 + 1 = w.heap.size + 2 from rfl, show w.heap.size + 2 + 1 = w.heap.size + 3 from rfl]
      rw [← hW]
      clear hW
      go_wp2_with fail
      refine (hor W).mono ?_
      rintro e w2 ⟨rfl, hb2⟩
      have g0 := (hb2.block _ (lt_of_block H0.out)).trans H0.out
      have g1 := (hb2.block _ (lt_of_block H1.out)).trans H1.out
      have g2 := (hb2.block _ (lt_of_block H2.out)).trans H2.out
      have g3 := (hb2.block _ (lt_of_block H3.out)).trans H3.out
      have k0 : ∀ q, w2.cell? ⟨w.heap.size, q, none⟩ = (#[.bool true, .bool true, .int .u64 (word a3 0), .int .u64 (word a3 1), .int .u64 (word a3 2), .int .u64 (word a3 3)])[q]? := cells_at g0
      have k1 : ∀ q, w2.cell? ⟨w.heap.size + 1, q, none⟩ = (#[.bool true, .bool b2, .int .u64 (word b3 0), .int .u64 (word b3 1), .int .u64 (word b3 2), .int .u64 (word b3 3)])[q]? := cells_at g1
      have K0 := Lib.hid g0
      have K1 := Lib.hid g1
      have K2 := Lib.hid g2
      have K3 : Hid (SetAt w2 (w.heap.size + 3) a3) := Lib.hid g3
      have Hb2 := Lib.hid (HbW.out.trans (hb2.mono HbW.out.size))
      clear hb2 g0 g1 g2 g3 c0 c1 c3 hor
      go_upto_region 6 with (first
        | (refine wpList_store_set rfl _ _ rfl (w.heap.size + 3) a3 (a3 ||| b3) rfl rfl K3.out ?_; intro w3 hs3 ho3; have Hs3 := Lib.hid hs3; have Ho3 := Lib.hid ho3; clear hs3 ho3; simp only [Act.put])
        | fail)
      have g0 := (Ho3.out.block w.heap.size (by omega)).trans K0.out
      have g1 := (Ho3.out.block (w.heap.size + 1) (by omega)).trans K1.out
      have K2' := Lib.hid ((Ho3.out.block (w.heap.size + 2) (by omega)).trans K2.out)
      have k0 : ∀ q, w3.cell? ⟨w.heap.size, q, none⟩ = (#[.bool true, .bool true, .int .u64 (word a3 0), .int .u64 (word a3 1), .int .u64 (word a3 2), .int .u64 (word a3 3)])[q]? := cells_at g0
      have k1 : ∀ q, w3.cell? ⟨w.heap.size + 1, q, none⟩ = (#[.bool true, .bool b2, .int .u64 (word b3 0), .int .u64 (word b3 1), .int .u64 (word b3 2), .int .u64 (word b3 3)])[q]? := cells_at g1
      have h4 := Hs3.out.four
      have Hb3 := Lib.hid (Ho3.out.below Hb2.out (by omega))
      clear g0 g1
      go_wp2_with (first
        | (refine wpList_load_set rfl _ rfl (w.heap.size + 3) 0 (a3 ||| b3) rfl h4 ?_)
        | (refine wpList_store_tr rfl _ _ rfl (w.heap.size + 2) _ #[.bool true, .bool b2, .int .u64 (word (a3 ||| b3) 0), .int .u64 (word (a3 ||| b3) 1), .int .u64 (word (a3 ||| b3) 2), .int .u64 (word (a3 ||| b3) 3)] rfl rfl K2'.out rfl rfl (by simp [Value.oneCell']) ?_; intro w4 hs4 ho4; have Hs4 := Lib.hid hs4; have Ho4 := Lib.hid ho4; clear hs4 ho4; simp only [Act.put])
        | fail)
      exact bodyPost_ret (v := .agg #[.bool true, .bool b2, .int .u64 (word (a3 ||| b3) 0), .int .u64 (word (a3 ||| b3) 1), .int .u64 (word (a3 ||| b3) 2), .int .u64 (word (a3 ||| b3) 3)]) (results_tr rfl _ _ (w.heap.size + 2) _ rfl Hs4.out rfl) rfl ⟨rfl, Ho4.out.below Hb3.out (by omega)⟩

set_option maxHeartbeats 8000000 in
theorem orr_walk (t u : Tr) (w : World) : Calls Try.prog 34 #[TV t, TV u] w fun e w' => e = .returned (TV (t.orr u)) ∧ Below w.heap.size w w' := by
  obtain ⟨a1, a2, a3⟩ := t
  obtain ⟨b1, b2, b3⟩ := u
  rw [show (Tr.mk a1 a2 a3).orr ⟨b1, b2, b3⟩ = ⟨a1 || b1, a2 || b2, a3 ||| b3⟩ from rfl]
  obtain ⟨wd, hwd⟩ : ∃ wd, wd = (((w.alloc (.cells #[.bool a1, .bool a2, .int .u64 (word a3 0), .int .u64 (word a3 1), .int .u64 (word a3 2), .int .u64 (word a3 3)] 48)).alloc (.cells #[.bool b1, .bool b2, .int .u64 (word b3 0), .int .u64 (word b3 1), .int .u64 (word b3 2), .int .u64 (word b3 3)] 48)).alloc (.cells #[.bool false, .bool false, .int .u64 0, .int .u64 0, .int .u64 0, .int .u64 0] 48)).drew := ⟨_, rfl⟩
  have hbW : Below w.heap.size w wd := by rw [hwd]; exact ((((Below.refl _ _).alloc (Nat.le_refl _) _).alloc (by simp) _).alloc (by simp; omega) _).drew
  have hsW : wd.heap.size = w.heap.size + 3 := by rw [hwd]; simp [World.drew]
  have h0 : wd.heap[w.heap.size]? = some (.cells #[.bool a1, .bool a2, .int .u64 (word a3 0), .int .u64 (word a3 1), .int .u64 (word a3 2), .int .u64 (word a3 3)] 48) := by
    rw [hwd]
    exact (Below.heap_alloc _ _ _ (by simp; omega)).trans ((Below.heap_alloc _ _ _ (by simp)).trans (World.alloc_heap_new w _))
  have h1 : wd.heap[w.heap.size + 1]? = some (.cells #[.bool b1, .bool b2, .int .u64 (word b3 0), .int .u64 (word b3 1), .int .u64 (word b3 2), .int .u64 (word b3 3)] 48) := by
    have h := World.alloc_heap_new (w.alloc (.cells #[.bool a1, .bool a2, .int .u64 (word a3 0), .int .u64 (word a3 1), .int .u64 (word a3 2), .int .u64 (word a3 3)] 48)) (.cells #[.bool b1, .bool b2, .int .u64 (word b3 0), .int .u64 (word b3 1), .int .u64 (word b3 2), .int .u64 (word b3 3)] 48)
    rw [World.size_alloc] at h
    rw [hwd]
    exact (Below.heap_alloc _ _ _ (by simp)).trans h
  have h2 : wd.heap[w.heap.size + 2]? = some (.cells #[.bool false, .bool false, .int .u64 0, .int .u64 0, .int .u64 0, .int .u64 0] 48) := by
    have h := World.alloc_heap_new ((w.alloc (.cells #[.bool a1, .bool a2, .int .u64 (word a3 0), .int .u64 (word a3 1), .int .u64 (word a3 2), .int .u64 (word a3 3)] 48)).alloc (.cells #[.bool b1, .bool b2, .int .u64 (word b3 0), .int .u64 (word b3 1), .int .u64 (word b3 2), .int .u64 (word b3 3)] 48)) (.cells #[.bool false, .bool false, .int .u64 0, .int .u64 0, .int .u64 0, .int .u64 0] 48)
    rw [World.size_alloc, World.size_alloc] at h
    rw [hwd]; exact h
  obtain ⟨C, hC⟩ : ∃ C : World → Prop, C = fun w' => Below (w.heap.size + 2) wd w' := ⟨_, rfl⟩
  have hCd : C wd := by rw [hC]; exact Below.refl _ _
  have hsz : w.heap.size + 2 ≤ wd.heap.size := by omega
  have Hcw := Lib.hid (show ∀ w' w2, C w' → Below w'.heap.size w' w2 → C w2 by rw [hC]; exact fun w' w2 h hb => h.trans (hb.mono (Nat.le_trans hsz h.size)))
  have Hco := Lib.hid (show ∀ w' w2, C w' → Only (w.heap.size + 2) w' w2 → C w2 by rw [hC]; exact fun w' w2 h ho => ho.below h (Nat.le_refl _))
  have k0 : ∀ (L : HeldW C) q, L.val.cell? ⟨w.heap.size, q, none⟩ = (#[.bool a1, .bool a2, .int .u64 (word a3 0), .int .u64 (word a3 1), .int .u64 (word a3 2), .int .u64 (word a3 3)])[q]? := by
    subst hC
    exact fun L q => by rw [L.ok.cell (p := ⟨w.heap.size, q, none⟩) (by show w.heap.size < _; omega)]; exact cells_at h0 q
  have k1 : ∀ (L : HeldW C) q, L.val.cell? ⟨w.heap.size + 1, q, none⟩ = (#[.bool b1, .bool b2, .int .u64 (word b3 0), .int .u64 (word b3 1), .int .u64 (word b3 2), .int .u64 (word b3 3)])[q]? := by
    subst hC
    exact fun L q => by rw [L.ok.cell (p := ⟨w.heap.size + 1, q, none⟩) (by show w.heap.size + 1 < _; omega)]; exact cells_at h1 q
  have s0 : ∀ w', (∃ L : HeldW C, w' = L.val) → Set4 w' w.heap.size 2 a3 := fun w' h => by
    obtain ⟨L, rfl⟩ := h
    intro q hq
    rw [k0 L]
    match q, hq with
    | 0, _ => rfl
    | 1, _ => rfl
    | 2, _ => rfl
    | 3, _ => rfl
  have s1 : ∀ w', (∃ L : HeldW C, w' = L.val) → Set4 w' (w.heap.size + 1) 2 b3 := fun w' h => by
    obtain ⟨L, rfl⟩ := h
    intro q hq
    rw [k1 L]
    match q, hq with
    | 0, _ => rfl
    | 1, _ => rfl
    | 2, _ => rfl
    | 3, _ => rfl
  have p0 : ∀ L : HeldW C, L.val.cell? ⟨w.heap.size, 0, none⟩ = some (.bool a1) := fun L => k0 L 0
  have p1 : ∀ L : HeldW C, L.val.cell? ⟨w.heap.size, 1, none⟩ = some (.bool a2) := fun L => k0 L 1
  have q0 : ∀ L : HeldW C, L.val.cell? ⟨w.heap.size + 1, 0, none⟩ = some (.bool b1) := fun L => k1 L 0
  have q1 : ∀ L : HeldW C, L.val.cell? ⟨w.heap.size + 1, 1, none⟩ = some (.bool b2) := fun L => k1 L 1
  have hne : Nonempty (HeldW C) := HeldW.nonempty hCd
  have hor := Lib.hid (or_any a3 b3 wd)
  have Hcd := Lib.hid hCd
  have H2 := Lib.hid h2
  have HbW := Lib.hid hbW
  clear hC hCd hsz k0 k1 h0 h1 h2 hbW hsW
  cases a1 <;> cases a2 <;> (
    go_enter Try.func34, Try.ntmps34
    go_upto_region 1 with fail
    refine wp_region_hold C (.plain 0 (.plain 1 (.plain 2 (.plain 3 (.plain 4 (.plain 5 (.plain 6 (.plain 7 (.plain 8 (.plain 9 (.plain 10 (.plain 11 (.plain 12 (.plain 13 (.plain 14 (.plain 15 (.sole 16 (.plain 17 (.sole 18 .done))))))))))))))))))) (by rw [← hwd]; exact Hcd.out) (by kernel_rfl) (by kernel_rfl) (fun c a d v w h => by cases d <;> exact h) ?_
    rw [show w.heap.size + 1 + 1 = w.heap.size + 2 from rfl, ← hwd]
    clear hwd
    repeat (first
        | (refine' hold_skip ?_ ?_ ?_
           rotate_left 1
           · simp only [List.getElem?_toArray, List.getElem?_cons_zero, List.getElem?_cons_succ]; exact rfl
           · exact rfl
           simp only [Act.put, List.setIfInBounds_toArray, List.set_cons_zero, List.set_cons_succ])
        | (refine' hold_want ?_ ?_ (fun K hK => ?_)
           rotate_left 1
           · simp only [List.getElem?_toArray, List.getElem?_cons_zero, List.getElem?_cons_succ]; exact rfl
           · exact rfl
           first
           | (refine quiet_load_set _ rfl w.heap.size 2 a3 rfl s0 ?_; refine hK _ ?_; clear hK K; try simp only [Act.put, List.setIfInBounds_toArray, List.set_cons_zero, List.set_cons_succ])
           | (refine quiet_load_set _ rfl (w.heap.size + 1) 2 b3 rfl s1 ?_; refine hK _ ?_; clear hK K; try simp only [Act.put, List.setIfInBounds_toArray, List.set_cons_zero, List.set_cons_succ])
           | (go_big_quiet_op; refine hK _ ?_; clear hK K)))
    refine' hold_sole ?_ ?_ (fun K hK => ?_)
    rotate_left 1
    · simp only [List.getElem?_toArray, List.getElem?_cons_zero, List.getElem?_cons_succ]; exact rfl
    · exact rfl
    go_simp
    refine (hor.out).mono ?_
    rintro e w2 ⟨rfl, hb2⟩
    refine hK _ _ (Hcw.out _ _ Hcd.out hb2) ?_
    have Hcl := Lib.hid (Hcw.out _ _ Hcd.out hb2)
    have H22 := Lib.hid ((hb2.block _ (lt_of_block H2.out)).trans H2.out)
    have Hb2 := Lib.hid (HbW.out.trans (hb2.mono HbW.out.size))
    clear hb2
    clear hK K
    try simp only [Act.put, List.setIfInBounds_toArray, List.set_cons_zero, List.set_cons_succ]
    repeat (first
        | (refine' hold_skip ?_ ?_ ?_
           rotate_left 1
           · simp only [List.getElem?_toArray, List.getElem?_cons_zero, List.getElem?_cons_succ]; exact rfl
           · exact rfl
           simp only [Act.put, List.setIfInBounds_toArray, List.set_cons_zero, List.set_cons_succ])
        | (refine' hold_want ?_ ?_ (fun K hK => ?_)
           rotate_left 1
           · simp only [List.getElem?_toArray, List.getElem?_cons_zero, List.getElem?_cons_succ]; exact rfl
           · exact rfl
           first
           | (refine quiet_load_set _ rfl w.heap.size 2 a3 rfl s0 ?_; refine hK _ ?_; clear hK K; try simp only [Act.put, List.setIfInBounds_toArray, List.set_cons_zero, List.set_cons_succ])
           | (refine quiet_load_set _ rfl (w.heap.size + 1) 2 b3 rfl s1 ?_; refine hK _ ?_; clear hK K; try simp only [Act.put, List.setIfInBounds_toArray, List.set_cons_zero, List.set_cons_succ])
           | (go_big_quiet_op; refine hK _ ?_; clear hK K)))
    refine' hold_sole ?_ ?_ (fun K hK => ?_)
    rotate_left 1
    · simp only [List.getElem?_toArray, List.getElem?_cons_zero, List.getElem?_cons_succ]; exact rfl
    · exact rfl
    refine wp_store_tr _ _ rfl (w.heap.size + 2) _ _ rfl rfl H22.out rfl rfl (by simp [Value.oneCell']) ?_
    intro wz hsz hoz
    refine hK _ _ (Hco.out _ _ Hcl.out hoz) ?_
    have Hsz := Lib.hid hsz
    have Hoz := Lib.hid hoz
    clear hK K hsz hoz
    try simp only [Act.put]
    refine hold_done ?_
    go_wp2_with fail
    exact bodyPost_ret (results_tr rfl _ _ (w.heap.size + 2) _ rfl Hsz.out rfl) rfl ⟨rfl, Hoz.out.below Hb2.out (by omega)⟩)

theorem field_first (a b : Bool) (c0 c1 c2 c3 : Int) (w : World) : (Instr.field 48 (.agg #[.bool a, .bool b, .int .u64 c0, .int .u64 c1, .int .u64 c2, .int .u64 c3]) 2).run Try.prog w = .ok (.agg #[.int .u64 c0, .int .u64 c1, .int .u64 c2, .int .u64 c3]) w := by kernel_rfl
def TrOf (x : Cr) : Prop := ∀ (cs : List Value) (w : World), Cr.at w x cs → Calls Try.prog 24 #[.agg cs.toArray] w fun e w' => e = .returned (TV x.tr) ∧ Below w.heap.size w w'
theorem two_below' (w : World) (o o' : Obj) : Below w.heap.size w ((w.alloc o).alloc o') := ((Below.refl _ _).alloc (Nat.le_refl _) _).alloc (by simp) _

theorem trOf_no : TrOf (.mk 0 0 0 []) := by
  intro cs w hat
  rw [at_mk] at hat
  obtain ⟨_, _, a, cap, rfl, hmax, hl⟩ := hat
  have e : (Cr.mk 0 0 0 []).tr = .no := by rw [tr_mk]; simp [trOf]
  rw [e, show TV _ = .agg #[.bool false, .bool false, .int .u64 0, .int .u64 0, .int .u64 0, .int .u64 0] from by first | exact tv_no | (show Value.agg #[.bool true, .bool true, .int .u64 (word 0 0), .int .u64 (word 0 1), .int .u64 (word 0 2), .int .u64 (word 0 3)] = _; rw [wz0, wz1, wz2, wz3]; rfl)]
  clear hl e
  go_enter Try.func24, Try.ntmps24
  go_wp2_with fail
  exact bodyPost_ret (v := .agg #[.bool false, .bool false, .int .u64 0, .int .u64 0, .int .u64 0, .int .u64 0]) (by simp [results, Try.results24, go_sem]) rfl ⟨rfl, two_below' _ _ _⟩
theorem trOf_em : TrOf (.mk 1 0 0 []) := by
  intro cs w hat
  rw [at_mk] at hat
  obtain ⟨_, _, a, cap, rfl, hmax, hl⟩ := hat
  have e : (Cr.mk 1 0 0 []).tr = ⟨true, true, 0⟩ := by rw [tr_mk]; simp [trOf]
  rw [e, show TV _ = .agg #[.bool true, .bool true, .int .u64 0, .int .u64 0, .int .u64 0, .int .u64 0] from by first | exact tv_no | (show Value.agg #[.bool true, .bool true, .int .u64 (word 0 0), .int .u64 (word 0 1), .int .u64 (word 0 2), .int .u64 (word 0 3)] = _; rw [wz0, wz1, wz2, wz3]; rfl)]
  clear hl e
  go_enter Try.func24, Try.ntmps24
  go_wp2_with fail
  exact bodyPost_ret (v := .agg #[.bool true, .bool true, .int .u64 0, .int .u64 0, .int .u64 0, .int .u64 0]) (by simp [results, Try.results24, go_sem]) rfl ⟨rfl, two_below' _ _ _⟩
set_option maxHeartbeats 8000000 in
theorem trOf_st (s : BitVec 256) : TrOf (.mk 2 s 0 []) := by
  intro cs w hat
  rw [at_mk] at hat
  obtain ⟨_, _, a, cap, rfl, hmax, hl⟩ := hat
  have e : (Cr.mk 2 s 0 []).tr = ⟨!decide (s = 0), false, s⟩ := by rw [tr_mk]; simp [trOf]
  rw [e]
  clear hl e
  obtain ⟨wd, hwd⟩ : ∃ wd, wd = ((w.alloc (.cells #[.int .i64 2, .int .u64 (word s 0), .int .u64 (word s 1), .int .u64 (word s 2), .int .u64 (word s 3), .int .i64 0, .slice a 0 cap] 28)).alloc (.cells #[.bool false, .bool false, .int .u64 0, .int .u64 0, .int .u64 0, .int .u64 0] 48)).drew := ⟨_, rfl⟩
  have hbW : Below w.heap.size w wd := by rw [hwd]; exact (two_below' _ _ _).drew
  have hsW : wd.heap.size = w.heap.size + 2 := by rw [hwd]; simp [World.drew]
  have h0 : CoreIn wd w.heap.size #[.int .i64 2, .int .u64 (word s 0), .int .u64 (word s 1), .int .u64 (word s 2), .int .u64 (word s 3), .int .i64 0, .slice a 0 cap] := by
    rw [hwd]
    exact (Below.heap_alloc _ _ _ (by simp)).trans (World.alloc_heap_new w _)
  have h1 : wd.heap[w.heap.size + 1]? = some (.cells #[.bool false, .bool false, .int .u64 0, .int .u64 0, .int .u64 0, .int .u64 0] 48) := by
    have h := World.alloc_heap_new (w.alloc (.cells #[.int .i64 2, .int .u64 (word s 0), .int .u64 (word s 1), .int .u64 (word s 2), .int .u64 (word s 3), .int .i64 0, .slice a 0 cap] 28)) (.cells #[.bool false, .bool false, .int .u64 0, .int .u64 0, .int .u64 0, .int .u64 0] 48)
    rw [World.size_alloc] at h
    rw [hwd]; exact h
  obtain ⟨C, hC⟩ : ∃ C : World → Prop, C = fun w' => Below (w.heap.size + 1) wd w' := ⟨_, rfl⟩
  have hCd : C wd := by rw [hC]; exact Below.refl _ _
  have hsz : w.heap.size + 1 ≤ wd.heap.size := by omega
  have Hcw := Lib.hid (show ∀ w' w2, C w' → Below w'.heap.size w' w2 → C w2 by rw [hC]; exact fun w' w2 h hb => h.trans (hb.mono (Nat.le_trans hsz h.size)))
  have Hco := Lib.hid (show ∀ w' w2, C w' → Only (w.heap.size + 1) w' w2 → C w2 by rw [hC]; exact fun w' w2 h ho => ho.below h (Nat.le_refl _))
  have hcb : ∀ w', C w' → Below w.heap.size w w' := by rw [hC]; exact fun w' h => hbW.trans (h.mono (Nat.le_succ _))
  have kc : ∀ (L : HeldW C) q, L.val.cell? ⟨w.heap.size, q, none⟩ = wd.cell? ⟨w.heap.size, q, none⟩ := by
    subst hC
    exact fun L q => L.ok.cell (p := ⟨w.heap.size, q, none⟩) (Nat.lt_succ_self _)
  have hne : Nonempty (HeldW C) := HeldW.nonempty hCd
  have Hcd := Lib.hid hCd
  have H1 := Lib.hid h1
  have Hcb := Lib.hid hcb
  have HbW := Lib.hid hbW
  have s0 : ∀ w', (∃ L : HeldW C, w' = L.val) → Set4 w' w.heap.size 1 s := fun w' h => by
    obtain ⟨L, rfl⟩ := h
    intro q hq
    rw [kc L, cells_at h0]
    match q, hq with
    | 0, _ => rfl
    | 1, _ => rfl
    | 2, _ => rfl
    | 3, _ => rfl
  have hlen := Lib.hid (len_any s wd)
  have hpos : decide ((0 : Int) < ((elems s).length : Int)) = !decide (s = 0) := by
    have h := elems_zero_iff s
    by_cases hs : s = 0
    · rw [decide_eq_true hs, h.2 hs]; rfl
    · rw [decide_eq_false hs]
      have : ¬ ((elems s).length : Int) = 0 := fun h' => hs (h.1 h')
      simp; omega
  have hpos2 : decide (0 < (elems s).length) = !decide (s = 0) := by rw [← hpos]; simp
  generalize decide (s = 0) = b at *
  clear hC hCd hsz h0 h1 hbW hsW hcb kc
  go_enter Try.func24, Try.ntmps24
  go_upto_region 5 with fail
  refine wp_region_hold C (.plain 0 (.plain 1 (.plain 4 (.plain 5 (.sole 2 (.plain 3 (.plain 6 (.sole 7 .done)))))))) (by rw [← hwd]; exact Hcd.out) (by kernel_rfl) (by kernel_rfl) (fun c a d v w h => by cases d <;> exact h) ?_
  rw [← hwd]
  clear hwd
  repeat (first
      | (refine' hold_skip ?_ ?_ ?_
         rotate_left 1
         · simp only [List.getElem?_toArray, List.getElem?_cons_zero, List.getElem?_cons_succ]; exact rfl
         · exact rfl
         simp only [Act.put, List.setIfInBounds_toArray, List.set_cons_zero, List.set_cons_succ])
      | (refine' hold_want ?_ ?_ (fun K hK => ?_)
         rotate_left 1
         · simp only [List.getElem?_toArray, List.getElem?_cons_zero, List.getElem?_cons_succ]; exact rfl
         · exact rfl
         first
         | (refine quiet_load_set _ rfl w.heap.size 1 s rfl s0 ?_; refine hK _ ?_; clear hK K; try simp only [Act.put, List.setIfInBounds_toArray, List.set_cons_zero, List.set_cons_succ])
         | (go_big_quiet_op; refine hK _ ?_; clear hK K)))
  refine' hold_sole ?_ ?_ (fun K hK => ?_)
  rotate_left 1
  · simp only [List.getElem?_toArray, List.getElem?_cons_zero, List.getElem?_cons_succ]; exact rfl
  · exact rfl
  go_simp
  refine (hlen.out).mono ?_
  rintro e w2 ⟨rfl, hb2⟩
  refine hK _ _ (Hcw.out _ _ Hcd.out hb2) ?_
  have Hcl := Lib.hid (Hcw.out _ _ Hcd.out hb2)
  have H1z := Lib.hid ((hb2.block _ (lt_of_block H1.out)).trans H1.out)
  have Hb2 := Lib.hid (HbW.out.trans (hb2.mono HbW.out.size))
  clear hb2
  clear hK K
  try simp only [Act.put, List.setIfInBounds_toArray, List.set_cons_zero, List.set_cons_succ]
  repeat (first
      | (refine' hold_skip ?_ ?_ ?_
         rotate_left 1
         · simp only [List.getElem?_toArray, List.getElem?_cons_zero, List.getElem?_cons_succ]; exact rfl
         · exact rfl
         simp only [Act.put, List.setIfInBounds_toArray, List.set_cons_zero, List.set_cons_succ])
      | (refine' hold_want ?_ ?_ (fun K hK => ?_)
         rotate_left 1
         · simp only [List.getElem?_toArray, List.getElem?_cons_zero, List.getElem?_cons_succ]; exact rfl
         · exact rfl
         first
         | (go_big_quiet_op; refine hK _ ?_; clear hK K)))
  refine' hold_sole ?_ ?_ (fun K hK => ?_)
  rotate_left 1
  · simp only [List.getElem?_toArray, List.getElem?_cons_zero, List.getElem?_cons_succ]; exact rfl
  · exact rfl
  refine wp_store_tr _ _ rfl (w.heap.size + 1) _ _ rfl rfl H1z.out rfl rfl (by simp [Value.oneCell']) ?_
  intro wz hsz hoz
  refine hK _ _ (Hco.out _ _ Hcl.out hoz) ?_
  have Hsz := Lib.hid hsz
  have Hoz := Lib.hid hoz
  clear hK K hsz hoz
  try simp only [Act.put]
  refine hold_done ?_
  go_wp2_with fail
  exact bodyPost_ret (results_tr rfl _ _ (w.heap.size + 1) _ rfl Hsz.out rfl) rfl ⟨rfl, Hoz.out.below Hb2.out (by omega)⟩
set_option maxHeartbeats 8000000 in
theorem trOf_cat (x1 x2 : Cr) (ih1 : TrOf x1) (ih2 : TrOf x2) : TrOf (.mk 3 0 0 [x1, x2]) := by
  intro cs w hat
  rw [at_mk] at hat
  obtain ⟨_, _, a, cap, rfl, hmax, hl⟩ := hat
  have e : (Cr.mk 3 0 0 [x1, x2]).tr = x1.tr.thn x2.tr := by rw [tr_mk, (trs_two x1 x2).1, (trs_two x1 x2).2]; simp [trOf]
  rw [e]
  clear e
  rcases hl with h | ⟨b, off, rfl, hcap, hbw, hnodes⟩
  · simp at h
  obtain ⟨c1, hc1, hcell1, hat1⟩ := nodes_get w b [x1, x2] off hnodes 0 (by simp)
  obtain ⟨c2, hc2, hcell2, hat2⟩ := nodes_get w b [x1, x2] off hnodes 1 (by simp)
  simp only [List.getElem_cons_zero] at hat1
  simp only [List.getElem_cons_succ, List.getElem_cons_zero] at hat2
  obtain ⟨wd, hwd⟩ : ∃ wd, wd = ((w.alloc (.cells #[.int .i64 3, .int .u64 (word (0#256) 0), .int .u64 (word (0#256) 1), .int .u64 (word (0#256) 2), .int .u64 (word (0#256) 3), .int .i64 0, .slice (some ⟨b, off, none⟩) 2 cap] 28)).alloc (.cells #[.bool false, .bool false, .int .u64 0, .int .u64 0, .int .u64 0, .int .u64 0] 48)).drew := ⟨_, rfl⟩
  have hbW : Below w.heap.size w wd := by rw [hwd]; exact (two_below' _ _ _).drew
  have hsW : wd.heap.size = w.heap.size + 2 := by rw [hwd]; simp [World.drew]
  have h0 : CoreIn wd w.heap.size #[.int .i64 3, .int .u64 (word (0#256) 0), .int .u64 (word (0#256) 1), .int .u64 (word (0#256) 2), .int .u64 (word (0#256) 3), .int .i64 0, .slice (some ⟨b, off, none⟩) 2 cap] := by
    rw [hwd]
    exact (Below.heap_alloc _ _ _ (by simp)).trans (World.alloc_heap_new w _)
  have h1 : wd.heap[w.heap.size + 1]? = some (.cells #[.bool false, .bool false, .int .u64 0, .int .u64 0, .int .u64 0, .int .u64 0] 48) := by
    have h := World.alloc_heap_new (w.alloc (.cells #[.int .i64 3, .int .u64 (word (0#256) 0), .int .u64 (word (0#256) 1), .int .u64 (word (0#256) 2), .int .u64 (word (0#256) 3), .int .i64 0, .slice (some ⟨b, off, none⟩) 2 cap] 28)) (.cells #[.bool false, .bool false, .int .u64 0, .int .u64 0, .int .u64 0, .int .u64 0] 48)
    rw [World.size_alloc] at h
    rw [hwd]; exact h
  obtain ⟨C, hC⟩ : ∃ C : World → Prop, C = fun w' => Below (w.heap.size + 1) wd w' := ⟨_, rfl⟩
  have hCd : C wd := by rw [hC]; exact Below.refl _ _
  have hsz : w.heap.size + 1 ≤ wd.heap.size := by omega
  have Hcw := Lib.hid (show ∀ w' w2, C w' → Below w'.heap.size w' w2 → C w2 by rw [hC]; exact fun w' w2 h hb => h.trans (hb.mono (Nat.le_trans hsz h.size)))
  have Hco := Lib.hid (show ∀ w' w2, C w' → Only (w.heap.size + 1) w' w2 → C w2 by rw [hC]; exact fun w' w2 h ho => ho.below h (Nat.le_refl _))
  have hcb : ∀ w', C w' → Below w.heap.size w w' := by rw [hC]; exact fun w' h => hbW.trans (h.mono (Nat.le_succ _))
  have kc : ∀ (L : HeldW C) q, L.val.cell? ⟨w.heap.size, q, none⟩ = wd.cell? ⟨w.heap.size, q, none⟩ := by
    subst hC
    exact fun L q => L.ok.cell (p := ⟨w.heap.size, q, none⟩) (Nat.lt_succ_self _)
  have hne : Nonempty (HeldW C) := HeldW.nonempty hCd
  have Hcd := Lib.hid hCd
  have H1 := Lib.hid h1
  have Hcb := Lib.hid hcb
  have HbW := Lib.hid hbW
  have k6 : ∀ L : HeldW C, L.val.cell? ⟨w.heap.size, 6, none⟩ = some (.slice (some ⟨b, off, none⟩) 2 cap) := fun L => by rw [kc L, cells_at h0]; rfl
  have h71 : ∀ w', (∃ L : HeldW C, w' = L.val) → Core7 w' b off c1 := fun w' h => by
    obtain ⟨L, rfl⟩ := h
    exact ⟨hc1, fun q hq => by rw [(Hcb.out _ L.ok).cell (p := ⟨b, off + q, none⟩) hbw]; have := hcell1 q hq; rw [Nat.zero_mul, Nat.add_zero] at this; exact this⟩
  have h72 : ∀ w', (∃ L : HeldW C, w' = L.val) → Core7 w' b (off + 7) c2 := fun w' h => by
    obtain ⟨L, rfl⟩ := h
    exact ⟨hc2, fun q hq => by rw [(Hcb.out _ L.ok).cell (p := ⟨b, off + 7 + q, none⟩) hbw]; have := hcell2 q hq; rw [Nat.one_mul] at this; exact this⟩
  have Ht1 := Lib.hid (fun w' (h : Below w.heap.size w w') => ih1 c1 w' (Cr.at_below h (Nat.le_refl _) _ _ hat1))
  have Ht2 := Lib.hid (fun w' (h : Below w.heap.size w w') => ih2 c2 w' (Cr.at_below h (Nat.le_refl _) _ _ hat2))
  clear hC hCd hsz h0 h1 hbW hsW hcb kc hnodes hcell1 hcell2 hat1 hat2 ih1 ih2 hmax
  generalize x1.tr = t1 at *
  generalize x2.tr = t2 at *
  go_enter Try.func24, Try.ntmps24
  go_upto_region 7 with fail
  refine wp_region_hold C (.plain 0 (.plain 1 (.plain 2 (.plain 3 (.plain 5 (.plain 6 (.plain 7 (.plain 8 (.sole 4 (.sole 9 (.sole 10 (.sole 11 .done)))))))))))) (by rw [← hwd]; exact Hcd.out) (by kernel_rfl) (by kernel_rfl) (fun c a d v w h => by cases d <;> exact h) ?_
  rw [← hwd]
  clear hwd
  repeat (first
      | (refine' hold_skip ?_ ?_ ?_
         rotate_left 1
         · simp only [List.getElem?_toArray, List.getElem?_cons_zero, List.getElem?_cons_succ]; exact rfl
         · exact rfl
         simp only [Act.put, List.setIfInBounds_toArray, List.set_cons_zero, List.set_cons_succ])
      | (refine' hold_want ?_ ?_ (fun K hK => ?_)
         rotate_left 1
         · simp only [List.getElem?_toArray, List.getElem?_cons_zero, List.getElem?_cons_succ]; exact rfl
         · exact rfl
         first
         | (refine quiet_load_core _ rfl b off c1 rfl h71 ?_; refine hK _ ?_; clear hK K; try simp only [Act.put, List.setIfInBounds_toArray, List.set_cons_zero, List.set_cons_succ])
         | (refine quiet_load_core _ rfl b (off + 7) c2 rfl h72 ?_; refine hK _ ?_; clear hK K; try simp only [Act.put, List.setIfInBounds_toArray, List.set_cons_zero, List.set_cons_succ])
         | (go_big_quiet_op; refine hK _ ?_; clear hK K)))
  refine' hold_sole ?_ ?_ (fun K hK => ?_)
  rotate_left 1
  · simp only [List.getElem?_toArray, List.getElem?_cons_zero, List.getElem?_cons_succ]; exact rfl
  · exact rfl
  go_simp
  refine (Ht1.out _ HbW.out).mono ?_
  rintro e w3 ⟨rfl, hb2⟩
  refine hK _ _ (Hcw.out _ _ Hcd.out hb2) ?_
  have Hcl3 := Lib.hid (Hcw.out _ _ Hcd.out hb2)
  have H13 := Lib.hid ((hb2.block _ (lt_of_block H1.out)).trans H1.out)
  have Hb3 := Lib.hid (HbW.out.trans (hb2.mono HbW.out.size))
  clear hb2
  clear hK K
  try simp only [Act.put, List.setIfInBounds_toArray, List.set_cons_zero, List.set_cons_succ]
  refine' hold_sole ?_ ?_ (fun K hK => ?_)
  rotate_left 1
  · simp only [List.getElem?_toArray, List.getElem?_cons_zero, List.getElem?_cons_succ]; exact rfl
  · exact rfl
  go_simp
  refine (Ht2.out _ Hb3.out).mono ?_
  rintro e w4 ⟨rfl, hb2⟩
  refine hK _ _ (Hcw.out _ _ Hcl3.out hb2) ?_
  have Hcl4 := Lib.hid (Hcw.out _ _ Hcl3.out hb2)
  have H14 := Lib.hid ((hb2.block _ (lt_of_block H13.out)).trans H13.out)
  have Hb4 := Lib.hid (Hb3.out.trans (hb2.mono Hb3.out.size))
  clear hb2
  clear hK K
  try simp only [Act.put, List.setIfInBounds_toArray, List.set_cons_zero, List.set_cons_succ]
  refine' hold_sole ?_ ?_ (fun K hK => ?_)
  rotate_left 1
  · simp only [List.getElem?_toArray, List.getElem?_cons_zero, List.getElem?_cons_succ]; exact rfl
  · exact rfl
  go_simp
  refine (then_walk t1 t2 _).mono ?_
  rintro e w5 ⟨rfl, hb2⟩
  refine hK _ _ (Hcw.out _ _ Hcl4.out hb2) ?_
  have Hcl := Lib.hid (Hcw.out _ _ Hcl4.out hb2)
  have H1z := Lib.hid ((hb2.block _ (lt_of_block H14.out)).trans H14.out)
  have Hb2 := Lib.hid (Hb4.out.trans (hb2.mono Hb4.out.size))
  clear hb2
  clear hK K
  try simp only [Act.put, List.setIfInBounds_toArray, List.set_cons_zero, List.set_cons_succ]
  refine' hold_sole ?_ ?_ (fun K hK => ?_)
  rotate_left 1
  · simp only [List.getElem?_toArray, List.getElem?_cons_zero, List.getElem?_cons_succ]; exact rfl
  · exact rfl
  refine wp_store_tr _ _ rfl (w.heap.size + 1) _ _ rfl rfl H1z.out rfl rfl (by simp [Value.oneCell']) ?_
  intro wz hsz hoz
  refine hK _ _ (Hco.out _ _ Hcl.out hoz) ?_
  have Hsz := Lib.hid hsz
  have Hoz := Lib.hid hoz
  clear hK K hsz hoz
  try simp only [Act.put]
  refine hold_done ?_
  go_wp2_with fail
  exact bodyPost_ret (results_tr rfl _ _ (w.heap.size + 1) _ rfl Hsz.out rfl) rfl ⟨rfl, Hoz.out.below Hb2.out (by omega)⟩
set_option maxHeartbeats 8000000 in
theorem trOf_alt (x1 x2 : Cr) (ih1 : TrOf x1) (ih2 : TrOf x2) : TrOf (.mk 4 0 0 [x1, x2]) := by
  intro cs w hat
  rw [at_mk] at hat
  obtain ⟨_, _, a, cap, rfl, hmax, hl⟩ := hat
  have e : (Cr.mk 4 0 0 [x1, x2]).tr = x1.tr.orr x2.tr := by rw [tr_mk, (trs_two x1 x2).1, (trs_two x1 x2).2]; simp [trOf]
  rw [e]
  clear e
  rcases hl with h | ⟨b, off, rfl, hcap, hbw, hnodes⟩
  · simp at h
  obtain ⟨c1, hc1, hcell1, hat1⟩ := nodes_get w b [x1, x2] off hnodes 0 (by simp)
  obtain ⟨c2, hc2, hcell2, hat2⟩ := nodes_get w b [x1, x2] off hnodes 1 (by simp)
  simp only [List.getElem_cons_zero] at hat1
  simp only [List.getElem_cons_succ, List.getElem_cons_zero] at hat2
  obtain ⟨wd, hwd⟩ : ∃ wd, wd = ((w.alloc (.cells #[.int .i64 4, .int .u64 (word (0#256) 0), .int .u64 (word (0#256) 1), .int .u64 (word (0#256) 2), .int .u64 (word (0#256) 3), .int .i64 0, .slice (some ⟨b, off, none⟩) 2 cap] 28)).alloc (.cells #[.bool false, .bool false, .int .u64 0, .int .u64 0, .int .u64 0, .int .u64 0] 48)).drew := ⟨_, rfl⟩
  have hbW : Below w.heap.size w wd := by rw [hwd]; exact (two_below' _ _ _).drew
  have hsW : wd.heap.size = w.heap.size + 2 := by rw [hwd]; simp [World.drew]
  have h0 : CoreIn wd w.heap.size #[.int .i64 4, .int .u64 (word (0#256) 0), .int .u64 (word (0#256) 1), .int .u64 (word (0#256) 2), .int .u64 (word (0#256) 3), .int .i64 0, .slice (some ⟨b, off, none⟩) 2 cap] := by
    rw [hwd]
    exact (Below.heap_alloc _ _ _ (by simp)).trans (World.alloc_heap_new w _)
  have h1 : wd.heap[w.heap.size + 1]? = some (.cells #[.bool false, .bool false, .int .u64 0, .int .u64 0, .int .u64 0, .int .u64 0] 48) := by
    have h := World.alloc_heap_new (w.alloc (.cells #[.int .i64 4, .int .u64 (word (0#256) 0), .int .u64 (word (0#256) 1), .int .u64 (word (0#256) 2), .int .u64 (word (0#256) 3), .int .i64 0, .slice (some ⟨b, off, none⟩) 2 cap] 28)) (.cells #[.bool false, .bool false, .int .u64 0, .int .u64 0, .int .u64 0, .int .u64 0] 48)
    rw [World.size_alloc] at h
    rw [hwd]; exact h
  obtain ⟨C, hC⟩ : ∃ C : World → Prop, C = fun w' => Below (w.heap.size + 1) wd w' := ⟨_, rfl⟩
  have hCd : C wd := by rw [hC]; exact Below.refl _ _
  have hsz : w.heap.size + 1 ≤ wd.heap.size := by omega
  have Hcw := Lib.hid (show ∀ w' w2, C w' → Below w'.heap.size w' w2 → C w2 by rw [hC]; exact fun w' w2 h hb => h.trans (hb.mono (Nat.le_trans hsz h.size)))
  have Hco := Lib.hid (show ∀ w' w2, C w' → Only (w.heap.size + 1) w' w2 → C w2 by rw [hC]; exact fun w' w2 h ho => ho.below h (Nat.le_refl _))
  have hcb : ∀ w', C w' → Below w.heap.size w w' := by rw [hC]; exact fun w' h => hbW.trans (h.mono (Nat.le_succ _))
  have kc : ∀ (L : HeldW C) q, L.val.cell? ⟨w.heap.size, q, none⟩ = wd.cell? ⟨w.heap.size, q, none⟩ := by
    subst hC
    exact fun L q => L.ok.cell (p := ⟨w.heap.size, q, none⟩) (Nat.lt_succ_self _)
  have hne : Nonempty (HeldW C) := HeldW.nonempty hCd
  have Hcd := Lib.hid hCd
  have H1 := Lib.hid h1
  have Hcb := Lib.hid hcb
  have HbW := Lib.hid hbW
  have k6 : ∀ L : HeldW C, L.val.cell? ⟨w.heap.size, 6, none⟩ = some (.slice (some ⟨b, off, none⟩) 2 cap) := fun L => by rw [kc L, cells_at h0]; rfl
  have h71 : ∀ w', (∃ L : HeldW C, w' = L.val) → Core7 w' b off c1 := fun w' h => by
    obtain ⟨L, rfl⟩ := h
    exact ⟨hc1, fun q hq => by rw [(Hcb.out _ L.ok).cell (p := ⟨b, off + q, none⟩) hbw]; have := hcell1 q hq; rw [Nat.zero_mul, Nat.add_zero] at this; exact this⟩
  have h72 : ∀ w', (∃ L : HeldW C, w' = L.val) → Core7 w' b (off + 7) c2 := fun w' h => by
    obtain ⟨L, rfl⟩ := h
    exact ⟨hc2, fun q hq => by rw [(Hcb.out _ L.ok).cell (p := ⟨b, off + 7 + q, none⟩) hbw]; have := hcell2 q hq; rw [Nat.one_mul] at this; exact this⟩
  have Ht1 := Lib.hid (fun w' (h : Below w.heap.size w w') => ih1 c1 w' (Cr.at_below h (Nat.le_refl _) _ _ hat1))
  have Ht2 := Lib.hid (fun w' (h : Below w.heap.size w w') => ih2 c2 w' (Cr.at_below h (Nat.le_refl _) _ _ hat2))
  clear hC hCd hsz h0 h1 hbW hsW hcb kc hnodes hcell1 hcell2 hat1 hat2 ih1 ih2 hmax
  generalize x1.tr = t1 at *
  generalize x2.tr = t2 at *
  go_enter Try.func24, Try.ntmps24
  go_upto_region 9 with fail
  refine wp_region_hold C (.plain 0 (.plain 1 (.plain 2 (.plain 3 (.plain 5 (.plain 6 (.plain 7 (.plain 8 (.sole 4 (.sole 9 (.sole 10 (.sole 11 .done)))))))))))) (by rw [← hwd]; exact Hcd.out) (by kernel_rfl) (by kernel_rfl) (fun c a d v w h => by cases d <;> exact h) ?_
  rw [← hwd]
  clear hwd
  repeat (first
      | (refine' hold_skip ?_ ?_ ?_
         rotate_left 1
         · simp only [List.getElem?_toArray, List.getElem?_cons_zero, List.getElem?_cons_succ]; exact rfl
         · exact rfl
         simp only [Act.put, List.setIfInBounds_toArray, List.set_cons_zero, List.set_cons_succ])
      | (refine' hold_want ?_ ?_ (fun K hK => ?_)
         rotate_left 1
         · simp only [List.getElem?_toArray, List.getElem?_cons_zero, List.getElem?_cons_succ]; exact rfl
         · exact rfl
         first
         | (refine quiet_load_core _ rfl b off c1 rfl h71 ?_; refine hK _ ?_; clear hK K; try simp only [Act.put, List.setIfInBounds_toArray, List.set_cons_zero, List.set_cons_succ])
         | (refine quiet_load_core _ rfl b (off + 7) c2 rfl h72 ?_; refine hK _ ?_; clear hK K; try simp only [Act.put, List.setIfInBounds_toArray, List.set_cons_zero, List.set_cons_succ])
         | (go_big_quiet_op; refine hK _ ?_; clear hK K)))
  refine' hold_sole ?_ ?_ (fun K hK => ?_)
  rotate_left 1
  · simp only [List.getElem?_toArray, List.getElem?_cons_zero, List.getElem?_cons_succ]; exact rfl
  · exact rfl
  go_simp
  refine (Ht1.out _ HbW.out).mono ?_
  rintro e w3 ⟨rfl, hb2⟩
  refine hK _ _ (Hcw.out _ _ Hcd.out hb2) ?_
  have Hcl3 := Lib.hid (Hcw.out _ _ Hcd.out hb2)
  have H13 := Lib.hid ((hb2.block _ (lt_of_block H1.out)).trans H1.out)
  have Hb3 := Lib.hid (HbW.out.trans (hb2.mono HbW.out.size))
  clear hb2
  clear hK K
  try simp only [Act.put, List.setIfInBounds_toArray, List.set_cons_zero, List.set_cons_succ]
  refine' hold_sole ?_ ?_ (fun K hK => ?_)
  rotate_left 1
  · simp only [List.getElem?_toArray, List.getElem?_cons_zero, List.getElem?_cons_succ]; exact rfl
  · exact rfl
  go_simp
  refine (Ht2.out _ Hb3.out).mono ?_
  rintro e w4 ⟨rfl, hb2⟩
  refine hK _ _ (Hcw.out _ _ Hcl3.out hb2) ?_
  have Hcl4 := Lib.hid (Hcw.out _ _ Hcl3.out hb2)
  have H14 := Lib.hid ((hb2.block _ (lt_of_block H13.out)).trans H13.out)
  have Hb4 := Lib.hid (Hb3.out.trans (hb2.mono Hb3.out.size))
  clear hb2
  clear hK K
  try simp only [Act.put, List.setIfInBounds_toArray, List.set_cons_zero, List.set_cons_succ]
  refine' hold_sole ?_ ?_ (fun K hK => ?_)
  rotate_left 1
  · simp only [List.getElem?_toArray, List.getElem?_cons_zero, List.getElem?_cons_succ]; exact rfl
  · exact rfl
  go_simp
  refine (orr_walk t1 t2 _).mono ?_
  rintro e w5 ⟨rfl, hb2⟩
  refine hK _ _ (Hcw.out _ _ Hcl4.out hb2) ?_
  have Hcl := Lib.hid (Hcw.out _ _ Hcl4.out hb2)
  have H1z := Lib.hid ((hb2.block _ (lt_of_block H14.out)).trans H14.out)
  have Hb2 := Lib.hid (Hb4.out.trans (hb2.mono Hb4.out.size))
  clear hb2
  clear hK K
  try simp only [Act.put, List.setIfInBounds_toArray, List.set_cons_zero, List.set_cons_succ]
  refine' hold_sole ?_ ?_ (fun K hK => ?_)
  rotate_left 1
  · simp only [List.getElem?_toArray, List.getElem?_cons_zero, List.getElem?_cons_succ]; exact rfl
  · exact rfl
  refine wp_store_tr _ _ rfl (w.heap.size + 1) _ _ rfl rfl H1z.out rfl rfl (by simp [Value.oneCell']) ?_
  intro wz hsz hoz
  refine hK _ _ (Hco.out _ _ Hcl.out hoz) ?_
  have Hsz := Lib.hid hsz
  have Hoz := Lib.hid hoz
  clear hK K hsz hoz
  try simp only [Act.put]
  refine hold_done ?_
  go_wp2_with fail
  exact bodyPost_ret (results_tr rfl _ _ (w.heap.size + 1) _ rfl Hsz.out rfl) rfl ⟨rfl, Hoz.out.below Hb2.out (by omega)⟩
set_option maxHeartbeats 8000000 in
theorem trOf_star (x1 : Cr) (ih1 : TrOf x1) : TrOf (.mk 5 0 0 [x1]) := by
  intro cs w hat
  rw [at_mk] at hat
  obtain ⟨_, _, a, cap, rfl, hmax, hl⟩ := hat
  have e : (Cr.mk 5 0 0 [x1]).tr = ⟨true, true, x1.tr.first⟩ := by rw [tr_mk, trs_one]; simp [trOf]
  rw [e]
  clear e
  rcases hl with h | ⟨b, off, rfl, hcap, hbw, hnodes⟩
  · simp at h
  obtain ⟨c1, hc1, hcell1, hat1⟩ := nodes_get w b [x1] off hnodes 0 (by simp)
  simp only [List.getElem_cons_zero] at hat1
  obtain ⟨wd, hwd⟩ : ∃ wd, wd = (w.alloc (.cells #[.int .i64 5, .int .u64 (word (0#256) 0), .int .u64 (word (0#256) 1), .int .u64 (word (0#256) 2), .int .u64 (word (0#256) 3), .int .i64 0, .slice (some ⟨b, off, none⟩) 1 cap] 28)).alloc (.cells #[.bool false, .bool false, .int .u64 0, .int .u64 0, .int .u64 0, .int .u64 0] 48) := ⟨_, rfl⟩
  have hbW : Below w.heap.size w wd := by rw [hwd]; exact two_below' _ _ _
  have hsW : wd.heap.size = w.heap.size + 2 := by rw [hwd]; simp
  have h0 : CoreIn wd w.heap.size #[.int .i64 5, .int .u64 (word (0#256) 0), .int .u64 (word (0#256) 1), .int .u64 (word (0#256) 2), .int .u64 (word (0#256) 3), .int .i64 0, .slice (some ⟨b, off, none⟩) 1 cap] := by
    rw [hwd]
    exact (Below.heap_alloc _ _ _ (by simp)).trans (World.alloc_heap_new w _)
  have h1 : wd.heap[w.heap.size + 1]? = some (.cells #[.bool false, .bool false, .int .u64 0, .int .u64 0, .int .u64 0, .int .u64 0] 48) := by
    have h := World.alloc_heap_new (w.alloc (.cells #[.int .i64 5, .int .u64 (word (0#256) 0), .int .u64 (word (0#256) 1), .int .u64 (word (0#256) 2), .int .u64 (word (0#256) 3), .int .i64 0, .slice (some ⟨b, off, none⟩) 1 cap] 28)) (.cells #[.bool false, .bool false, .int .u64 0, .int .u64 0, .int .u64 0, .int .u64 0] 48)
    rw [World.size_alloc] at h
    rw [hwd]; exact h
  have k6 : wd.cell? ⟨w.heap.size, 6, none⟩ = some (.slice (some ⟨b, off, none⟩) 1 cap) := by rw [cells_at h0]; rfl
  have h71 : Core7 wd b off c1 := ⟨hc1, fun q hq => by rw [hbW.cell (p := ⟨b, off + q, none⟩) hbw]; have := hcell1 q hq; rw [Nat.zero_mul, Nat.add_zero] at this; exact this⟩
  have Ht1 := Lib.hid (ih1 c1 wd (Cr.at_below hbW (Nat.le_refl _) _ _ hat1))
  have H1 := Lib.hid h1
  have HbW := Lib.hid hbW
  clear hnodes hcell1 hat1 ih1 hmax h0 h1 hbW hsW
  generalize x1.tr = t1 at *
  go_enter Try.func24, Try.ntmps24
  go_upto_region 11 with fail
  rw [← hwd]
  clear hwd
  go_wp2_with (first | (refine wpList_load_core rfl _ rfl b off c1 rfl h71 ?_) | fail)
  refine Ht1.out.mono ?_
  rintro e w2 ⟨rfl, hb2⟩
  have H12 := Lib.hid ((hb2.block _ (lt_of_block H1.out)).trans H1.out)
  have Hb2 := Lib.hid (HbW.out.trans (hb2.mono HbW.out.size))
  clear hb2 k6 h71 Ht1 hbw
  have hfld := field_first
  try simp only [TV]
  go_wp2_with (first
    | (refine wpList_store_tr rfl _ _ rfl (w.heap.size + 1) _ #[.bool true, .bool true, .int .u64 (word t1.first 0), .int .u64 (word t1.first 1), .int .u64 (word t1.first 2), .int .u64 (word t1.first 3)] rfl rfl H12.out rfl rfl (by simp [Value.oneCell']) ?_; intro wz hsz hoz; have Hsz := Lib.hid hsz; have Hoz := Lib.hid hoz; clear hsz hoz; simp only [Act.put])
    | fail)
  exact bodyPost_ret (results_tr rfl _ _ (w.heap.size + 1) _ rfl Hsz.out rfl) rfl ⟨rfl, Hoz.out.below Hb2.out (by omega)⟩
set_option maxHeartbeats 8000000 in
theorem trOf_grp (n : Int) (x1 : Cr) (ih1 : TrOf x1) : TrOf (.mk 6 0 n [x1]) := by
  intro cs w hat
  rw [at_mk] at hat
  obtain ⟨_, _, a, cap, rfl, hmax, hl⟩ := hat
  have e : (Cr.mk 6 0 n [x1]).tr = x1.tr := by rw [tr_mk, trs_one]; simp [trOf]
  rw [e]
  clear e
  rcases hl with h | ⟨b, off, rfl, hcap, hbw, hnodes⟩
  · simp at h
  obtain ⟨c1, hc1, hcell1, hat1⟩ := nodes_get w b [x1] off hnodes 0 (by simp)
  simp only [List.getElem_cons_zero] at hat1
  obtain ⟨wd, hwd⟩ : ∃ wd, wd = (w.alloc (.cells #[.int .i64 6, .int .u64 (word (0#256) 0), .int .u64 (word (0#256) 1), .int .u64 (word (0#256) 2), .int .u64 (word (0#256) 3), .int .i64 n, .slice (some ⟨b, off, none⟩) 1 cap] 28)).alloc (.cells #[.bool false, .bool false, .int .u64 0, .int .u64 0, .int .u64 0, .int .u64 0] 48) := ⟨_, rfl⟩
  have hbW : Below w.heap.size w wd := by rw [hwd]; exact two_below' _ _ _
  have hsW : wd.heap.size = w.heap.size + 2 := by rw [hwd]; simp
  have h0 : CoreIn wd w.heap.size #[.int .i64 6, .int .u64 (word (0#256) 0), .int .u64 (word (0#256) 1), .int .u64 (word (0#256) 2), .int .u64 (word (0#256) 3), .int .i64 n, .slice (some ⟨b, off, none⟩) 1 cap] := by
    rw [hwd]
    exact (Below.heap_alloc _ _ _ (by simp)).trans (World.alloc_heap_new w _)
  have h1 : wd.heap[w.heap.size + 1]? = some (.cells #[.bool false, .bool false, .int .u64 0, .int .u64 0, .int .u64 0, .int .u64 0] 48) := by
    have h := World.alloc_heap_new (w.alloc (.cells #[.int .i64 6, .int .u64 (word (0#256) 0), .int .u64 (word (0#256) 1), .int .u64 (word (0#256) 2), .int .u64 (word (0#256) 3), .int .i64 n, .slice (some ⟨b, off, none⟩) 1 cap] 28)) (.cells #[.bool false, .bool false, .int .u64 0, .int .u64 0, .int .u64 0, .int .u64 0] 48)
    rw [World.size_alloc] at h
    rw [hwd]; exact h
  have k6 : wd.cell? ⟨w.heap.size, 6, none⟩ = some (.slice (some ⟨b, off, none⟩) 1 cap) := by rw [cells_at h0]; rfl
  have h71 : Core7 wd b off c1 := ⟨hc1, fun q hq => by rw [hbW.cell (p := ⟨b, off + q, none⟩) hbw]; have := hcell1 q hq; rw [Nat.zero_mul, Nat.add_zero] at this; exact this⟩
  have Ht1 := Lib.hid (ih1 c1 wd (Cr.at_below hbW (Nat.le_refl _) _ _ hat1))
  have H1 := Lib.hid h1
  have HbW := Lib.hid hbW
  clear hnodes hcell1 hat1 ih1 hmax h0 h1 hbW hsW
  generalize x1.tr = t1 at *
  go_enter Try.func24, Try.ntmps24
  go_upto_region 14 with fail
  rw [← hwd]
  clear hwd
  go_wp2_with (first | (refine wpList_load_core rfl _ rfl b off c1 rfl h71 ?_) | fail)
  refine Ht1.out.mono ?_
  rintro e w2 ⟨rfl, hb2⟩
  have H12 := Lib.hid ((hb2.block _ (lt_of_block H1.out)).trans H1.out)
  have Hb2 := Lib.hid (HbW.out.trans (hb2.mono HbW.out.size))
  clear hb2 k6 h71 Ht1 hbw
  have hfld := field_first
  try simp only [TV]
  go_wp2_with (first
    | (refine wpList_store_tr rfl _ _ rfl (w.heap.size + 1) _ #[.bool t1.some, .bool t1.null, .int .u64 (word t1.first 0), .int .u64 (word t1.first 1), .int .u64 (word t1.first 2), .int .u64 (word t1.first 3)] rfl rfl H12.out rfl rfl (by simp [Value.oneCell']) ?_; intro wz hsz hoz; have Hsz := Lib.hid hsz; have Hoz := Lib.hid hoz; clear hsz hoz; simp only [Act.put])
    | fail)
  exact bodyPost_ret (results_tr rfl _ _ (w.heap.size + 1) _ rfl Hsz.out rfl) rfl ⟨rfl, Hoz.out.below Hb2.out (by omega)⟩
set_option maxHeartbeats 8000000 in
theorem trOf_ren (x1 : Cr) (ih1 : TrOf x1) : TrOf (.mk 7 0 0 [x1]) := by
  intro cs w hat
  rw [at_mk] at hat
  obtain ⟨_, _, a, cap, rfl, hmax, hl⟩ := hat
  have e : (Cr.mk 7 0 0 [x1]).tr = x1.tr := by rw [tr_mk, trs_one]; simp [trOf]
  rw [e]
  clear e
  rcases hl with h | ⟨b, off, rfl, hcap, hbw, hnodes⟩
  · simp at h
  obtain ⟨c1, hc1, hcell1, hat1⟩ := nodes_get w b [x1] off hnodes 0 (by simp)
  simp only [List.getElem_cons_zero] at hat1
  obtain ⟨wd, hwd⟩ : ∃ wd, wd = (w.alloc (.cells #[.int .i64 7, .int .u64 (word (0#256) 0), .int .u64 (word (0#256) 1), .int .u64 (word (0#256) 2), .int .u64 (word (0#256) 3), .int .i64 0, .slice (some ⟨b, off, none⟩) 1 cap] 28)).alloc (.cells #[.bool false, .bool false, .int .u64 0, .int .u64 0, .int .u64 0, .int .u64 0] 48) := ⟨_, rfl⟩
  have hbW : Below w.heap.size w wd := by rw [hwd]; exact two_below' _ _ _
  have hsW : wd.heap.size = w.heap.size + 2 := by rw [hwd]; simp
  have h0 : CoreIn wd w.heap.size #[.int .i64 7, .int .u64 (word (0#256) 0), .int .u64 (word (0#256) 1), .int .u64 (word (0#256) 2), .int .u64 (word (0#256) 3), .int .i64 0, .slice (some ⟨b, off, none⟩) 1 cap] := by
    rw [hwd]
    exact (Below.heap_alloc _ _ _ (by simp)).trans (World.alloc_heap_new w _)
  have h1 : wd.heap[w.heap.size + 1]? = some (.cells #[.bool false, .bool false, .int .u64 0, .int .u64 0, .int .u64 0, .int .u64 0] 48) := by
    have h := World.alloc_heap_new (w.alloc (.cells #[.int .i64 7, .int .u64 (word (0#256) 0), .int .u64 (word (0#256) 1), .int .u64 (word (0#256) 2), .int .u64 (word (0#256) 3), .int .i64 0, .slice (some ⟨b, off, none⟩) 1 cap] 28)) (.cells #[.bool false, .bool false, .int .u64 0, .int .u64 0, .int .u64 0, .int .u64 0] 48)
    rw [World.size_alloc] at h
    rw [hwd]; exact h
  have k6 : wd.cell? ⟨w.heap.size, 6, none⟩ = some (.slice (some ⟨b, off, none⟩) 1 cap) := by rw [cells_at h0]; rfl
  have h71 : Core7 wd b off c1 := ⟨hc1, fun q hq => by rw [hbW.cell (p := ⟨b, off + q, none⟩) hbw]; have := hcell1 q hq; rw [Nat.zero_mul, Nat.add_zero] at this; exact this⟩
  have Ht1 := Lib.hid (ih1 c1 wd (Cr.at_below hbW (Nat.le_refl _) _ _ hat1))
  have H1 := Lib.hid h1
  have HbW := Lib.hid hbW
  clear hnodes hcell1 hat1 ih1 hmax h0 h1 hbW hsW
  generalize x1.tr = t1 at *
  go_enter Try.func24, Try.ntmps24
  go_upto_region 14 with fail
  rw [← hwd]
  clear hwd
  go_wp2_with (first | (refine wpList_load_core rfl _ rfl b off c1 rfl h71 ?_) | fail)
  refine Ht1.out.mono ?_
  rintro e w2 ⟨rfl, hb2⟩
  have H12 := Lib.hid ((hb2.block _ (lt_of_block H1.out)).trans H1.out)
  have Hb2 := Lib.hid (HbW.out.trans (hb2.mono HbW.out.size))
  clear hb2 k6 h71 Ht1 hbw
  have hfld := field_first
  try simp only [TV]
  go_wp2_with (first
    | (refine wpList_store_tr rfl _ _ rfl (w.heap.size + 1) _ #[.bool t1.some, .bool t1.null, .int .u64 (word t1.first 0), .int .u64 (word t1.first 1), .int .u64 (word t1.first 2), .int .u64 (word t1.first 3)] rfl rfl H12.out rfl rfl (by simp [Value.oneCell']) ?_; intro wz hsz hoz; have Hsz := Lib.hid hsz; have Hoz := Lib.hid hoz; clear hsz hoz; simp only [Act.put])
    | fail)
  exact bodyPost_ret (results_tr rfl _ _ (w.heap.size + 1) _ rfl Hsz.out rfl) rfl ⟨rfl, Hoz.out.below Hb2.out (by omega)⟩
theorem traitsOf_any : ∀ x : Cr, x.form = true → TrOf x :=
  form_ind trOf_no trOf_em trOf_st (fun a b _ _ pa pb => trOf_cat a b pa pb) (fun a b _ _ pa pb => trOf_alt a b pa pb) (fun a _ pa => trOf_star a pa) (fun n a _ _ _ pa => trOf_grp n a pa) (fun a _ pa => trOf_ren a pa)
theorem field_null (a b : Bool) (c0 c1 c2 c3 : Int) (w : World) : (Instr.field 48 (.agg #[.bool a, .bool b, .int .u64 c0, .int .u64 c1, .int .u64 c2, .int .u64 c3]) 1).run Try.prog w = .ok (.bool b) w := by kernel_rfl
set_option maxHeartbeats 4000000 in
theorem lang_null {x : Cr} {cs : List Value} {w : World} (hat : Cr.at w x cs) : Calls Try.prog 14 #[.agg cs.toArray] w fun e w' => e = .returned (.bool (nullC x)) ∧ Below w.heap.size w w' := by
  have hgood := K.good_walk (Cr.at_below ((Below.refl w.heap.size w).alloc (Nat.le_refl _) (.cells cs.toArray 28)) (Nat.le_refl _) _ _ hat)
  have hx := fun h : goodC x = true => traitsOf_any x (by unfold goodC at h; rw [Bool.and_eq_true] at h; exact h.2)
  have hat0 := hat
  obtain ⟨k, s, nn, aa, len, ccap, rfl⟩ := at_lit hat
  have hw1 := alloc_below w (.cells #[.int .i64 k, .int .u64 (word s 0), .int .u64 (word s 1), .int .u64 (word s 2), .int .u64 (word s 3), .int .i64 nn, .slice aa len ccap] 28)
  have hbx := World.alloc_heap_new w (.cells #[.int .i64 k, .int .u64 (word s 0), .int .u64 (word s 1), .int .u64 (word s 2), .int .u64 (word s 3), .int .i64 nn, .slice aa len ccap] 28)
  have h7 := core7_in (cs := [.int .i64 k, .int .u64 (word s 0), .int .u64 (word s 1), .int .u64 (word s 2), .int .u64 (word s 3), .int .i64 nn, .slice aa len ccap]) hbx rfl
  have Hat := Lib.hid (Cr.at_below hw1 (Nat.le_refl _) _ _ hat0)
  have Hbx := Lib.hid hbx
  have Hw1 := Lib.hid hw1
  unfold nullC
  clear hat hat0 hbx hw1
  cases hg : goodC x with
  | false =>
    rw [hg] at hgood
    rw [Bool.false_and]
    clear hx hg
    go_enter Try.func14, Try.ntmps14
    go_wp2_with (first | (refine wpList_load_core rfl _ rfl w.heap.size 0 _ rfl h7 ?_) | (go_at_call 19; refine hgood.mono ?_; rintro e w2 ⟨rfl, hb2⟩; have Hb2 := Lib.hid (Hw1.out.trans (hb2.mono Hw1.out.size)); clear hb2) | fail)
    go_ret
    exact ⟨rfl, Hb2.out⟩
  | true =>
    rw [hg] at hgood
    rw [Bool.true_and]
    have Hx := Lib.hid (hx hg)
    clear hx hg
    go_enter Try.func14, Try.ntmps14
    go_wp2_with (first | (refine wpList_load_core rfl _ rfl w.heap.size 0 _ rfl h7 ?_) | fail)
    refine hgood.mono ?_
    rintro e w2 ⟨rfl, hb2⟩
    have h72 := core7_in (cs := [.int .i64 k, .int .u64 (word s 0), .int .u64 (word s 1), .int .u64 (word s 2), .int .u64 (word s 3), .int .i64 nn, .slice aa len ccap]) ((hb2.block _ (by simp)).trans Hbx.out) rfl
    have Hc2 := Lib.hid (Hx.out _ w2 (Cr.at_below hb2 (Nat.le_refl _) _ _ Hat.out))
    have Hb2 := Lib.hid (Hw1.out.trans (hb2.mono Hw1.out.size))
    clear hb2 hgood h7
    go_wp2_with (first | (refine wpList_load_node_want rfl _ rfl w.heap.size 0 _ rfl h72 ?_) | fail)
    refine Hc2.out.mono ?_
    rintro e w3 ⟨rfl, hb3⟩
    have Hb3 := Lib.hid (Hb2.out.trans (hb3.mono Hb2.out.size))
    clear hb3 h72
    have hfld := field_null
    try simp only [TV]
    go_wp2_with fail
    go_ret
    exact ⟨rfl, Hb3.out⟩
theorem sv_zero : SV 0 = .agg #[.int .u64 0, .int .u64 0, .int .u64 0, .int .u64 0] := by
  show Value.agg #[.int .u64 (word 0 0), .int .u64 (word 0 1), .int .u64 (word 0 2), .int .u64 (word 0 3)] = _
  rw [wz0, wz1, wz2, wz3]; rfl
set_option maxHeartbeats 4000000 in
theorem lang_first {x : Cr} {cs : List Value} {w : World} (hat : Cr.at w x cs) : Calls Try.prog 16 #[.agg cs.toArray] w fun e w' => e = .returned (SV (firstC x)) ∧ Below w.heap.size w w' := by
  have hx := fun h : goodC x = true => traitsOf_any x (by unfold goodC at h; rw [Bool.and_eq_true] at h; exact h.2)
  obtain ⟨W, hW⟩ : ∃ W, W = (w.alloc (.cells cs.toArray 28)).alloc (.cells #[.int .u64 0, .int .u64 0, .int .u64 0, .int .u64 0] 25) := ⟨_, rfl⟩
  have hw1 : Below w.heap.size w W := by rw [hW]; exact two_below' _ _ _
  have hbx : W.heap[w.heap.size]? = some (.cells cs.toArray 28) := by rw [hW]; exact (Below.heap_alloc _ _ _ (by simp)).trans (World.alloc_heap_new w _)
  have hres : SetAt W (w.heap.size + 1) 0 := by
    have h := World.alloc_heap_new (w.alloc (.cells cs.toArray 28)) (.cells #[.int .u64 0, .int .u64 0, .int .u64 0, .int .u64 0] 25)
    rw [World.size_alloc] at h
    unfold SetAt
    rw [wz0, wz1, wz2, wz3, hW]; exact h
  have hgood := K.good_walk (Cr.at_below hw1 (Nat.le_refl _) _ _ hat)
  have h7 := core7_in hbx (at_len hat)
  have Hat := Lib.hid (Cr.at_below hw1 (Nat.le_refl _) _ _ hat)
  have Hlen := Lib.hid (at_len hat)
  have Hbx := Lib.hid hbx
  have Hw1 := Lib.hid hw1
  have Hres := Lib.hid hres
  obtain ⟨k, s, nn, aa, len, ccap, rfl⟩ := at_lit hat
  unfold firstC
  clear hat hbx hw1 hres
  cases hg : goodC x with
  | false =>
    rw [hg] at hgood
    rw [if_neg (by simp)]
    clear hx hg
    go_enter Try.func16, Try.ntmps16
    go_upto_region 1 with fail
    rw [← hW]
    clear hW
    go_wp2_with (first | (refine wpList_load_core rfl _ rfl w.heap.size 0 _ rfl h7 ?_) | (go_at_call 19; refine hgood.mono ?_; rintro e w2 ⟨rfl, hb2⟩; have Hs2 := Lib.hid (setAt_below Hres.out hb2 (setAt_lt Hres.out)); have Hb2 := Lib.hid (Hw1.out.trans (hb2.mono Hw1.out.size)); clear hb2) | (refine wpList_store_set rfl _ _ rfl (w.heap.size + 1) 0 0 rfl (by rw [sv_zero]; rfl) Hs2.out ?_; intro wz hsz hoz; have Hsz := Lib.hid hsz; have Hoz := Lib.hid hoz; clear hsz hoz; simp only [Act.put]) | fail)
    exact bodyPost_ret (results_set rfl _ _ (w.heap.size + 1) 0 rfl Hsz.out) rfl ⟨rfl, Hoz.out.below Hb2.out (by omega)⟩
  | true =>
    rw [hg] at hgood
    rw [if_pos rfl]
    have Hx := Lib.hid (hx hg)
    clear hx hg
    go_enter Try.func16, Try.ntmps16
    go_upto_region 1 with fail
    rw [← hW]
    clear hW
    go_upto_region 3 with (first | (refine wpList_load_core rfl _ rfl w.heap.size 0 _ rfl h7 ?_) | (go_at_call 19; refine hgood.mono ?_; rintro e w2 ⟨rfl, hb2⟩; have Hk2 := Lib.hid hb2) | fail)
    have h72 := core7_in ((Hk2.out.block _ (lt_of_block Hbx.out)).trans Hbx.out) Hlen.out
    have Hc2 := Lib.hid (Hx.out _ w2 (Cr.at_below Hk2.out (Nat.le_refl _) _ _ Hat.out))
    have Hs2 := Lib.hid (setAt_below Hres.out Hk2.out (setAt_lt Hres.out))
    have Hb2 := Lib.hid (Hw1.out.trans (Hk2.out.mono Hw1.out.size))
    clear hb2 hgood h7
    go_wp2_with (first | (refine wpList_load_core rfl _ rfl w.heap.size 0 _ rfl h72 ?_) | fail)
    refine Hc2.out.mono ?_
    rintro e w3 ⟨rfl, hb3⟩
    have Hb3 := Lib.hid (Hb2.out.trans (hb3.mono Hb2.out.size))
    have Hs3 := Lib.hid (setAt_below Hs2.out hb3 (setAt_lt Hs2.out))
    clear hb3 h72
    have hfld := field_first
    try simp only [TV]
    go_wp2_with (first | (refine wpList_store_set rfl _ _ rfl (w.heap.size + 1) 0 x.tr.first rfl rfl Hs3.out ?_; intro wz hsz hoz; have Hsz := Lib.hid hsz; have Hoz := Lib.hid hoz; clear hsz hoz; simp only [Act.put]) | fail)
    exact bodyPost_ret (results_set rfl _ _ (w.heap.size + 1) x.tr.first rfl Hsz.out) rfl ⟨rfl, Hoz.out.below Hb3.out (by omega)⟩

end K
end Go.Proofs.Ytobhjfhmhhahoaa
