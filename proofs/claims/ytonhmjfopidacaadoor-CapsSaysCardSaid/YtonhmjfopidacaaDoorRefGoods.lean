/- RefValGood, RefValKinds, RefValStar, RefValTop, as one. -/
import Derived.Test.YtonhmjfopidacaaDoorRefVals
import Derived.Test.YtonhmjfopidacaaDoorRefCores
import Derived.Test.YtonhmjfopidacaaDoorValMore
import Derived.Test.YtonhmjfopidacaaDoorLater
import Derived.Deep.DeepCutAuto
import Derived.Test.YtonhmjfopidacaaDoorClosed
import Derived.Test.YtonhmjfopidacaaDoorAnyGuard2
import Derived.Deep.LoopGhost
namespace Go.Proofs.YtonhmjfopidacaaDoor
namespace V
set_option maxRecDepth 100000
open Go.RowKit
/-- what the document's own goodValue tells of a core that is valid -/
def gv (full : Bool) (c : K.Cr) (v : Vl) : Bool := bel c v && (!full || v.fullB)
theorem gv_seven (full : Bool) (s : BitVec 256) (n : Int) (c : K.Cr) (v : Vl) : gv full (.mk 7 s n [c]) v = gv full c v := by
  unfold gv
  rw [bel_mk, belT_seven]; rfl
theorem gv_else {k : Int} (h : k ≠ 7) (full : Bool) (s : BitVec 256) (n : Int) (l : List K.Cr) (vk : Int) (b : Nat) (vl : List Vl) :
    gv full (.mk k s n l) (.mk vk b vl) = (formV vk b vl.length && belK k s (l.map bel) vk b vl && (!full || (Vl.mk vk b vl).fullB)) := by
  unfold gv
  rw [bel_mk, belT_else h]
theorem gv_byte {k : Int} (h : k ≠ 7) (full : Bool) (s : BitVec 256) (n : Int) (l : List K.Cr) {vk : Int} {b : Nat} (hk : vk ≠ 2) (hb : b ≠ 0) (vl : List Vl) : gv full (.mk k s n l) (.mk vk b vl) = false := by
  rw [gv_else h]
  have e : formV vk b vl.length = false := by unfold formV; simp [hk, hb]
  rw [e]; rfl
theorem gv_one (full : Bool) (s : BitVec 256) (n : Int) (l : List K.Cr) {vk : Int} {b : Nat} (hb : vk = 2 ∨ b = 0) (vl : List Vl) : gv full (.mk 1 s n l) (.mk vk b vl) = (vk == 1 && decide (vl.length = 0)) := by
  rw [gv_else (by decide)]
  by_cases h1 : vk = 1
  · subst h1
    obtain rfl : b = 0 := hb.resolve_left (by decide)
    cases vl with
    | nil => rw [fullB_mk]; simp [formV, belK]
    | cons x vl => simp [formV]
  · have e1 : (vk == 1) = false := by simp [h1]
    simp [belK, e1]
theorem gv_two (full : Bool) (s : BitVec 256) (n : Int) (l : List K.Cr) {vk : Int} {b : Nat} (vl : List Vl) : gv full (.mk 2 s n l) (.mk vk b vl) = (vk == 2 && decide (vl.length = 0) && s.getLsbD b) := by
  rw [gv_else (by decide)]
  by_cases h1 : vk = 2
  · subst h1
    cases vl with
    | nil => rw [fullB_mk]; simp [formV, belK]
    | cons x vl => simp [formV]
  · have e1 : (vk == 2) = false := by simp [h1]
    simp [belK, e1]
theorem gv_three (full : Bool) (s : BitVec 256) (n : Int) (c0 c1 : K.Cr) {vk : Int} {b : Nat} (hb : vk = 2 ∨ b = 0) (vl : List Vl) : gv full (.mk 3 s n [c0, c1]) (.mk vk b vl) = (vk == 3 && decide (vl.length = 2) && gv full c0 (vl.getD 0 v0) && gv full c1 (vl.getD 1 v0)) := by
  rw [gv_else (by decide)]
  by_cases h1 : vk = 3
  · subst h1
    obtain rfl : b = 0 := hb.resolve_left (by decide)
    match vl with
    | [] => simp [formV]
    | [x] => simp [formV]
    | [x, y] =>
      rw [fullB_mk]
      unfold gv
      simp [formV, belK, cntN]
      cases full <;> cases bel c0 x <;> cases bel c1 y <;> cases x.fullB <;> simp
    | x :: y :: z :: vl => simp [formV]
  · have e1 : (vk == 3) = false := by simp [h1]
    simp [belK, e1]
theorem gv_four (full : Bool) (s : BitVec 256) (n : Int) (c0 c1 : K.Cr) {vk : Int} {b : Nat} (hb : vk = 2 ∨ b = 0) (vl : List Vl) : gv full (.mk 4 s n [c0, c1]) (.mk vk b vl) = (decide (vl.length = 1) && (vk == 4 && gv full c0 (vl.getD 0 v0) || vk == 5 && gv full c1 (vl.getD 0 v0))) := by
  rw [gv_else (by decide)]
  by_cases h1 : vk = 4
  · subst h1
    obtain rfl : b = 0 := hb.resolve_left (by decide)
    match vl with
    | [] => simp [formV]
    | [x] =>
      rw [fullB_mk]
      unfold gv
      simp [formV, belK, cntN]
    | x :: y :: vl => simp [formV]
  by_cases h2 : vk = 5
  · subst h2
    obtain rfl : b = 0 := hb.resolve_left (by decide)
    match vl with
    | [] => simp [formV]
    | [x] =>
      rw [fullB_mk]
      unfold gv
      simp [formV, belK, cntN]
    | x :: y :: vl => simp [formV]
  · have e1 : (vk == 4) = false := by simp [h1]
    have e2 : (vk == 5) = false := by simp [h2]
    simp [belK, e1, e2]
theorem gv_six (full : Bool) (s : BitVec 256) (n : Int) (c0 : K.Cr) {vk : Int} {b : Nat} (hb : vk = 2 ∨ b = 0) (vl : List Vl) : gv full (.mk 6 s n [c0]) (.mk vk b vl) = (vk == 7 && decide (vl.length = 1) && gv full c0 (vl.getD 0 v0)) := by
  rw [gv_else (by decide)]
  by_cases h1 : vk = 7
  · subst h1
    obtain rfl : b = 0 := hb.resolve_left (by decide)
    match vl with
    | [] => simp [formV]
    | [x] =>
      rw [fullB_mk]
      unfold gv
      simp [formV, belK, cntN]
    | x :: y :: vl => simp [formV]
  · have e1 : (vk == 7) = false := by simp [h1]
    simp [belK, e1]
theorem gv_five (full : Bool) (s : BitVec 256) (n : Int) (c0 : K.Cr) {vk : Int} {b : Nat} (hb : vk = 2 ∨ b = 0) (vl : List Vl) : gv full (.mk 5 s n [c0]) (.mk vk b vl) = (vk == 6 && vl.all fun x => gv full c0 x && (!full || decide (0 < x.flat.length))) := by
  rw [gv_else (by decide)]
  by_cases h1 : vk = 6
  · subst h1
    obtain rfl : b = 0 := hb.resolve_left (by decide)
    rw [fullB_mk, if_neg (by decide), show cntN 6 vl.length = vl.length from rfl, List.take_length]
    have hform : formV 6 0 vl.length = true := by simp [formV]
    rw [hform]
    show (true && (vl.all (bel c0)) && (!full || vl.all fun x => x.fullB && (decide (0 < x.flat.length) || (6 : Int) != 6))) = (vl.all fun x => gv full c0 x && (!full || decide (0 < x.flat.length)))
    induction vl with
    | nil => cases full <;> rfl
    | cons x vl ih =>
      simp only [List.all_cons]
      have hf : formV 6 0 vl.length = true := by simp [formV]
      rw [← ih hf]
      unfold gv
      generalize vl.all (bel c0) = A
      generalize (vl.all fun x => x.fullB && (decide (0 < x.flat.length) || (6 : Int) != 6)) = B
      have h6 : ((6 : Int) != 6) = false := by decide
      rw [h6]
      generalize decide (0 < x.flat.length) = D
      cases full <;> cases bel c0 x <;> cases x.fullB <;> cases A <;> cases B <;> cases D <;> rfl
  · have e1 : (vk == 6) = false := by simp [h1]
    simp [belK, e1]
end V
end Go.Proofs.YtonhmjfopidacaaDoor
namespace Go.Proofs.YtonhmjfopidacaaDoor
namespace V
set_option maxRecDepth 100000
open Go.RowKit
theorem getD_at (l : List Vl) (j : Nat) (h : j < l.length) : l.getD j v0 = l[j] := by rw [List.getD_eq_getElem?_getD, List.getElem?_eq_getElem h]; rfl
theorem quiet_load_rc {o : Oper} {a : Act} {C : World → Prop} {J : Act → Prop} (x : Operand) (ho : o.op = .load 57 x) (b off : Nat) (cs : List Value) (hx : a.eval x = .pointer (some ⟨b, off, none⟩))
    (h : ∀ w, C w → K.RefC w b off cs) (hK : J (a.put o.dst (.agg cs.toArray))) : o.quiet Tryd.prog a C J :=
  ⟨.agg cs.toArray, fun w hw => by
    unfold Oper.quietAt execOp
    simp only [ho, hx, Instr.loadAt, Instr.sureAddr, Sem.run_bind, Sem.run_pure, Result.andThen_ok, K.loadRefCore (h w hw)]
    exact ⟨rfl, rfl⟩, hK⟩
theorem rc_later {w w' : World} {b off : Nat} {cs : List Value} (h : K.RefC w b off cs) (hb : Below w.heap.size w w') : K.RefC w' b off cs := ⟨h.1, fun q hq => by
  have h4 := h.2 q hq
  rw [List.getElem?_eq_getElem (by have := h.1; omega)] at h4 ⊢
  rw [hb.cell (p := ⟨b, off + q, none⟩) (World.block_lt_of_cell? w _ h4)]
  exact h4⟩
/-- what the walk of a child gives -/
def GoodIH (m : Nat) : Prop := ∀ (c : K.Cr) (v : Vl) (cs ds : List Value) (full : Bool) (w : World), c.count ≤ m → c.form = true → (full = true → v.count ≤ 70368744177664) → K.Cr.ref w c cs → Vl.at w v ds →
  Calls Tryd.prog 60 #[.agg cs.toArray, .agg ds.toArray, .bool full] w fun e w' => e = .returned (.bool (gv full c v)) ∧ Below w.heap.size w w'
set_option maxHeartbeats 16000000 in
theorem gvk_7 {m : Nat} (ih : GoodIH m) (s : BitVec 256) (n : Int) (c0 : K.Cr) (hc0 : c0.count ≤ m) (hf0 : c0.form = true) (vk : Int) (b : Nat) (vl : List Vl) (ln : Nat) (hln : vl.length = ln) (cs ds : List Value) (full : Bool) (w : World) (hv : full = true → (Vl.mk vk b vl).count ≤ 70368744177664)
    (hat : K.Cr.ref w (.mk 7 s n [c0]) cs) (hva : Vl.at w (.mk vk b vl) ds) :
    Calls Tryd.prog 60 #[.agg cs.toArray, .agg ds.toArray, .bool full] w fun e w' => e = .returned (.bool (gv full (.mk 7 s n [c0]) (.mk vk b vl))) ∧ Below w.heap.size w w' := by
    have hva0 := hva
    rw [K.refc_mk] at hat
    obtain ⟨_, _, a, cap, rfl, hmax, hl⟩ := hat
    rw [at_mk, hln] at hva
    obtain ⟨hfk, hfz, va, vcap, rfl, hvmax, hvl⟩ := hva
    have hmx : (ln : Int) ≤ 9223372036854775807 := by unfold maxLen at hvmax; omega
    simp only [List.length_cons, List.length_nil, Nat.zero_add] at hl hmax ⊢
    obtain ⟨W, hW⟩ : ∃ W, W = (w.alloc (.cells (K.rcCells 7 s n (.slice a 1 cap)).toArray 57)).alloc (.cells #[.int .i64 vk, .int .u8 b, .slice va ln vcap] 61) := ⟨_, rfl⟩
    have hbel : Below w.heap.size w W := by rw [hW]; exact ((Below.refl _ _).alloc (Nat.le_refl _) _).alloc (by simp) _
    have hcc : K.CCells W w.heap.size 7 s n (.slice a 1 cap) := by rw [hW]; exact (K.ccells_box (World.alloc_heap_new w _)).later (K.alloc_below _ _)
    have hvb : RBox W (w.heap.size + 1) #[.int .i64 vk, .int .u8 b, .slice va ln vcap] := by
      rw [hW]
      have h := rbox_start (w.alloc (.cells (K.rcCells 7 s n (.slice a 1 cap)).toArray 57)) #[.int .i64 vk, .int .u8 b, .slice va ln vcap]
      rw [World.size_alloc] at h
      exact h
    have p0 : W.cell? ⟨w.heap.size, 0, none⟩ = some (.int .i64 7) := hcc.c0
    have p258 : W.cell? ⟨w.heap.size, 258, none⟩ = some (.slice a 1 cap) := hcc.c258
    have c258 := fun L : Later W => (hcc.later L.ok).c258
    have q0 : W.cell? ⟨w.heap.size + 1, 0, none⟩ = some (.int .i64 vk) := by rw [cells_at hvb]; rfl
    have q1 : W.cell? ⟨w.heap.size + 1, 1, none⟩ = some (.int .u8 b) := by rw [cells_at hvb]; rfl
    have q2 : W.cell? ⟨w.heap.size + 1, 2, none⟩ = some (.slice va ln vcap) := by rw [cells_at hvb]; rfl
    have hlw : w.heap.size + 1 < W.heap.size := hvb.lt
    have lq0 := fun L : Later W => (L.cell ⟨w.heap.size + 1, 0, none⟩ hlw).trans q0
    have lq2 := fun L : Later W => (L.cell ⟨w.heap.size + 1, 2, none⟩ hlw).trans q2
    have hvbx : ∀ w', (∃ L : Later W, w' = L.val) → Val3 w' (w.heap.size + 1) 0 [.int .i64 vk, .int .u8 b, .slice va ln vcap] := fun w' hw' => by
      obtain ⟨L, rfl⟩ := hw'
      exact (rval3_in hvb rfl).below hlw L.ok
    have hne := Later.nonempty W
    have HBel := Lib.hid hbel
    have HCC := Lib.hid hcc
    obtain ⟨cb, coff, rfl, hcap, hcb, hcr⟩ := hl.resolve_left (by decide)
    obtain ⟨es0, hes0, hcell0, hch0⟩ := K.coresRef_get w cb [c0] coff hcr 0 (by simp)
    have hE0 : ∀ w', (∃ L : Later W, w' = L.val) → K.RefC w' cb (coff + 0) es0 := fun w' hw' => by
      obtain ⟨L, rfl⟩ := hw'
      exact rc_later ⟨hes0, fun q hq => by rw [hbel.cell (p := ⟨cb, coff + 0 + q, none⟩) hcb]; exact hcell0 q hq⟩ L.ok
    have hR0 : ∀ L : Later W, K.Cr.ref L.val c0 es0 := fun L => K.Cr.ref_below (hbel.trans (L.ok.mono hbel.size)) hch0
    clear hcell0 hch0 hcr
    have hcall := fun L : Later W => ih c0 (.mk vk b vl) es0 [.int .i64 vk, .int .u8 b, .slice va ln vcap] full L.val hc0 hf0 hv (hR0 L) (Vl.at_below (hbel.trans (L.ok.mono hbel.size)) (Nat.le_refl _) _ _ hva0)
    rw [gv_seven]
    generalize gv full c0 (.mk vk b vl) = r at hcall ⊢
    generalize hC : K.rcCells 7 s n (.slice (some ⟨cb, coff, none⟩) 1 cap) = C at hW ⊢
    clear hC hbel hcc hmax hva0
    go_enter Tryd.func60, Tryd.ntmps60
    go_upto_region 1 with (first
      | (refine Go.Great.wpList_boxTo rfl _ _ rfl _ rfl w.heap.size rfl C.toArray rfl ?_)
      | fail)
    rw [← hW]
    clear hW
    clear hR0 ih hl hcap hcb hf0 hc0 hv hvl hfk hfz hvmax hmx
    go_wp2_with fail
    refine wp_region_later (W0 := W) (Below.refl _ _) (by kernel_rfl) (by as_aux_lemma => kernel_rfl) ?_
    repeat (first
      | go_big_quiet_skip
      | (go_big_quiet_want; refine quiet_load_rc _ rfl cb (coff + 0) es0 rfl hE0 ?_; go_big_quiet_on; simp only [Act.put, List.setIfInBounds_toArray, List.set_cons_zero, List.set_cons_succ])
      | (go_big_quiet_want; refine quiet_load_refval _ rfl (w.heap.size + 1) 0 [.int .i64 vk, .int .u8 b, .slice va ln vcap] rfl hvbx ?_; go_big_quiet_on; simp only [Act.put, List.setIfInBounds_toArray, List.set_cons_zero, List.set_cons_succ])
      | go_big_quiet_step (exact Later.calls (hcall _)))
    refine wpQuiet_nil ?_
    intro w' hw'
    obtain ⟨L', rfl⟩ := hw'
    go_wp2_with fail
    go_ret
    exact ⟨rfl, HBel.out.trans (L'.ok.mono HBel.out.size)⟩
set_option maxHeartbeats 16000000 in
theorem gvk_0 {m : Nat} (_ih : GoodIH m) (s : BitVec 256) (n : Int)  (vk : Int) (b : Nat) (vl : List Vl) (ln : Nat) (hln : vl.length = ln) (cs ds : List Value) (full : Bool) (w : World) (hv : full = true → (Vl.mk vk b vl).count ≤ 70368744177664)
    (hat : K.Cr.ref w (.mk 0 s n []) cs) (hva : Vl.at w (.mk vk b vl) ds) :
    Calls Tryd.prog 60 #[.agg cs.toArray, .agg ds.toArray, .bool full] w fun e w' => e = .returned (.bool (gv full (.mk 0 s n []) (.mk vk b vl))) ∧ Below w.heap.size w w' := by
    have hva0 := hva
    rw [K.refc_mk] at hat
    obtain ⟨_, _, a, cap, rfl, hmax, hl⟩ := hat
    rw [at_mk, hln] at hva
    obtain ⟨hfk, hfz, va, vcap, rfl, hvmax, hvl⟩ := hva
    have hmx : (ln : Int) ≤ 9223372036854775807 := by unfold maxLen at hvmax; omega
    simp only [List.length_nil] at hl hmax ⊢
    obtain ⟨W, hW⟩ : ∃ W, W = (w.alloc (.cells (K.rcCells 0 s n (.slice a 0 cap)).toArray 57)).alloc (.cells #[.int .i64 vk, .int .u8 b, .slice va ln vcap] 61) := ⟨_, rfl⟩
    have hbel : Below w.heap.size w W := by rw [hW]; exact ((Below.refl _ _).alloc (Nat.le_refl _) _).alloc (by simp) _
    have hcc : K.CCells W w.heap.size 0 s n (.slice a 0 cap) := by rw [hW]; exact (K.ccells_box (World.alloc_heap_new w _)).later (K.alloc_below _ _)
    have hvb : RBox W (w.heap.size + 1) #[.int .i64 vk, .int .u8 b, .slice va ln vcap] := by
      rw [hW]
      have h := rbox_start (w.alloc (.cells (K.rcCells 0 s n (.slice a 0 cap)).toArray 57)) #[.int .i64 vk, .int .u8 b, .slice va ln vcap]
      rw [World.size_alloc] at h
      exact h
    have p0 : W.cell? ⟨w.heap.size, 0, none⟩ = some (.int .i64 0) := hcc.c0
    have p258 : W.cell? ⟨w.heap.size, 258, none⟩ = some (.slice a 0 cap) := hcc.c258
    have c258 := fun L : Later W => (hcc.later L.ok).c258
    have q0 : W.cell? ⟨w.heap.size + 1, 0, none⟩ = some (.int .i64 vk) := by rw [cells_at hvb]; rfl
    have q1 : W.cell? ⟨w.heap.size + 1, 1, none⟩ = some (.int .u8 b) := by rw [cells_at hvb]; rfl
    have q2 : W.cell? ⟨w.heap.size + 1, 2, none⟩ = some (.slice va ln vcap) := by rw [cells_at hvb]; rfl
    have hlw : w.heap.size + 1 < W.heap.size := hvb.lt
    have lq0 := fun L : Later W => (L.cell ⟨w.heap.size + 1, 0, none⟩ hlw).trans q0
    have lq2 := fun L : Later W => (L.cell ⟨w.heap.size + 1, 2, none⟩ hlw).trans q2
    have hvbx : ∀ w', (∃ L : Later W, w' = L.val) → Val3 w' (w.heap.size + 1) 0 [.int .i64 vk, .int .u8 b, .slice va ln vcap] := fun w' hw' => by
      obtain ⟨L, rfl⟩ := hw'
      exact (rval3_in hvb rfl).below hlw L.ok
    have hne := Later.nonempty W
    have HBel := Lib.hid hbel
    have HCC := Lib.hid hcc
    by_cases h2 : vk = 2
    · subst h2
      rw [show gv full (.mk 0 s n []) (.mk 2 b vl) = false from by rw [gv_else (by decide)]; simp [belK]]
      generalize hC : K.rcCells 0 s n (.slice a 0 cap) = C at hW ⊢
      clear hC hbel hcc hl hmax hva0
      try clear h4
      try clear hbe
      try clear hR0
      try clear hR1
      try clear hl
      try clear hcap
      try clear hcb
      try clear hf0
      try clear hc0
      try clear hf1
      try clear hc1
      try clear hv
      try clear hvl
      try clear hfk
      try clear hvmax
      try clear hmx
      try clear ih
      try clear h2
      try clear hb0
      try clear h3
      try clear hL
      try clear hln
      try clear hval
      try clear hfz
      go_enter Tryd.func60, Tryd.ntmps60
      go_upto_region 1 with (first
        | (refine Go.Great.wpList_boxTo rfl _ _ rfl _ rfl w.heap.size rfl C.toArray rfl ?_)
        | fail)
      rw [← hW]
      clear hW
      go_wp2_with fail
      go_ret
      exact ⟨rfl, HBel.out⟩
    · have n2 : (vk != 2) = true := by simp [h2]
      by_cases hb0 : b = 0
      · have hbe : vk = 2 ∨ b = 0 := .inr hb0
        have nb : ((b : Int) != 0) = false := by simp [hb0]
        rw [show gv full (.mk 0 s n []) (.mk vk b vl) = false from by rw [gv_else (by decide)]; simp [belK]]
        generalize hC : K.rcCells 0 s n (.slice a 0 cap) = C at hW ⊢
        clear hC hbel hcc hl hmax hva0
        try clear h4
        try clear hbe
        try clear hR0
        try clear hR1
        try clear hl
        try clear hcap
        try clear hcb
        try clear hf0
        try clear hc0
        try clear hf1
        try clear hc1
        try clear hv
        try clear hvl
        try clear hfk
        try clear hvmax
        try clear hmx
        try clear ih
        try clear h2
        try clear hb0
        try clear h3
        try clear hL
        try clear hln
        try clear hval
        try clear hfz
        go_enter Tryd.func60, Tryd.ntmps60
        go_upto_region 1 with (first
          | (refine Go.Great.wpList_boxTo rfl _ _ rfl _ rfl w.heap.size rfl C.toArray rfl ?_)
          | fail)
        rw [← hW]
        clear hW
        go_wp2_with fail
        go_ret
        exact ⟨rfl, HBel.out⟩
      · have nb : ((b : Int) != 0) = true := by simp; omega
        rw [gv_byte (by decide) full s n _ h2 hb0]
        generalize hC : K.rcCells 0 s n (.slice a 0 cap) = C at hW ⊢
        clear hC hbel hcc hl hmax hva0
        try clear h4
        try clear hbe
        try clear hR0
        try clear hR1
        try clear hl
        try clear hcap
        try clear hcb
        try clear hf0
        try clear hc0
        try clear hf1
        try clear hc1
        try clear hv
        try clear hvl
        try clear hfk
        try clear hvmax
        try clear hmx
        try clear ih
        try clear h2
        try clear hb0
        try clear h3
        try clear hL
        try clear hln
        try clear hval
        try clear hfz
        go_enter Tryd.func60, Tryd.ntmps60
        go_upto_region 1 with (first
          | (refine Go.Great.wpList_boxTo rfl _ _ rfl _ rfl w.heap.size rfl C.toArray rfl ?_)
          | fail)
        rw [← hW]
        clear hW
        go_wp2_with fail
        go_ret
        exact ⟨rfl, HBel.out⟩
set_option maxHeartbeats 16000000 in
theorem gvk_1 {m : Nat} (_ih : GoodIH m) (s : BitVec 256) (n : Int)  (vk : Int) (b : Nat) (vl : List Vl) (ln : Nat) (hln : vl.length = ln) (cs ds : List Value) (full : Bool) (w : World) (hv : full = true → (Vl.mk vk b vl).count ≤ 70368744177664)
    (hat : K.Cr.ref w (.mk 1 s n []) cs) (hva : Vl.at w (.mk vk b vl) ds) :
    Calls Tryd.prog 60 #[.agg cs.toArray, .agg ds.toArray, .bool full] w fun e w' => e = .returned (.bool (gv full (.mk 1 s n []) (.mk vk b vl))) ∧ Below w.heap.size w w' := by
    have hva0 := hva
    rw [K.refc_mk] at hat
    obtain ⟨_, _, a, cap, rfl, hmax, hl⟩ := hat
    rw [at_mk, hln] at hva
    obtain ⟨hfk, hfz, va, vcap, rfl, hvmax, hvl⟩ := hva
    have hmx : (ln : Int) ≤ 9223372036854775807 := by unfold maxLen at hvmax; omega
    simp only [List.length_nil] at hl hmax ⊢
    obtain ⟨W, hW⟩ : ∃ W, W = (w.alloc (.cells (K.rcCells 1 s n (.slice a 0 cap)).toArray 57)).alloc (.cells #[.int .i64 vk, .int .u8 b, .slice va ln vcap] 61) := ⟨_, rfl⟩
    have hbel : Below w.heap.size w W := by rw [hW]; exact ((Below.refl _ _).alloc (Nat.le_refl _) _).alloc (by simp) _
    have hcc : K.CCells W w.heap.size 1 s n (.slice a 0 cap) := by rw [hW]; exact (K.ccells_box (World.alloc_heap_new w _)).later (K.alloc_below _ _)
    have hvb : RBox W (w.heap.size + 1) #[.int .i64 vk, .int .u8 b, .slice va ln vcap] := by
      rw [hW]
      have h := rbox_start (w.alloc (.cells (K.rcCells 1 s n (.slice a 0 cap)).toArray 57)) #[.int .i64 vk, .int .u8 b, .slice va ln vcap]
      rw [World.size_alloc] at h
      exact h
    have p0 : W.cell? ⟨w.heap.size, 0, none⟩ = some (.int .i64 1) := hcc.c0
    have p258 : W.cell? ⟨w.heap.size, 258, none⟩ = some (.slice a 0 cap) := hcc.c258
    have c258 := fun L : Later W => (hcc.later L.ok).c258
    have q0 : W.cell? ⟨w.heap.size + 1, 0, none⟩ = some (.int .i64 vk) := by rw [cells_at hvb]; rfl
    have q1 : W.cell? ⟨w.heap.size + 1, 1, none⟩ = some (.int .u8 b) := by rw [cells_at hvb]; rfl
    have q2 : W.cell? ⟨w.heap.size + 1, 2, none⟩ = some (.slice va ln vcap) := by rw [cells_at hvb]; rfl
    have hlw : w.heap.size + 1 < W.heap.size := hvb.lt
    have lq0 := fun L : Later W => (L.cell ⟨w.heap.size + 1, 0, none⟩ hlw).trans q0
    have lq2 := fun L : Later W => (L.cell ⟨w.heap.size + 1, 2, none⟩ hlw).trans q2
    have hvbx : ∀ w', (∃ L : Later W, w' = L.val) → Val3 w' (w.heap.size + 1) 0 [.int .i64 vk, .int .u8 b, .slice va ln vcap] := fun w' hw' => by
      obtain ⟨L, rfl⟩ := hw'
      exact (rval3_in hvb rfl).below hlw L.ok
    have hne := Later.nonempty W
    have HBel := Lib.hid hbel
    have HCC := Lib.hid hcc
    by_cases h2 : vk = 2
    · subst h2
      rw [show gv full (.mk 1 s n []) (.mk 2 b vl) = false from by rw [gv_one _ _ _ _ (.inl rfl)]; rfl]
      generalize hC : K.rcCells 1 s n (.slice a 0 cap) = C at hW ⊢
      clear hC hbel hcc hl hmax hva0
      try clear h4
      try clear hbe
      try clear hR0
      try clear hR1
      try clear hl
      try clear hcap
      try clear hcb
      try clear hf0
      try clear hc0
      try clear hf1
      try clear hc1
      try clear hv
      try clear hvl
      try clear hfk
      try clear hvmax
      try clear hmx
      try clear ih
      try clear h2
      try clear hb0
      try clear h3
      try clear hL
      try clear hln
      try clear hval
      try clear hfz
      go_enter Tryd.func60, Tryd.ntmps60
      go_upto_region 1 with (first
        | (refine Go.Great.wpList_boxTo rfl _ _ rfl _ rfl w.heap.size rfl C.toArray rfl ?_)
        | fail)
      rw [← hW]
      clear hW
      go_wp2_with fail
      go_ret
      exact ⟨rfl, HBel.out⟩
    · have n2 : (vk != 2) = true := by simp [h2]
      by_cases hb0 : b = 0
      · have hbe : vk = 2 ∨ b = 0 := .inr hb0
        have nb : ((b : Int) != 0) = false := by simp [hb0]
        by_cases h3 : vk = 1
        · subst h3
          by_cases hL : ln = 0
          · subst hL
            rw [show gv full (.mk 1 s n []) (.mk 1 b vl) = true from by rw [gv_one _ _ _ _ hbe, hln]; rfl]
            generalize hC : K.rcCells 1 s n (.slice a 0 cap) = C at hW ⊢
            clear hC hbel hcc hl hmax hva0
            try clear h4
            try clear hbe
            try clear hR0
            try clear hR1
            try clear hl
            try clear hcap
            try clear hcb
            try clear hf0
            try clear hc0
            try clear hf1
            try clear hc1
            try clear hv
            try clear hvl
            try clear hfk
            try clear hvmax
            try clear hmx
            try clear ih
            try clear h2
            try clear hb0
            try clear h3
            try clear hL
            try clear hln
            try clear hval
            try clear hfz
            go_enter Tryd.func60, Tryd.ntmps60
            go_upto_region 1 with (first
              | (refine Go.Great.wpList_boxTo rfl _ _ rfl _ rfl w.heap.size rfl C.toArray rfl ?_)
              | fail)
            rw [← hW]
            clear hW
            go_wp2_with fail
            go_ret
            exact ⟨rfl, HBel.out⟩
          ·
            have eL : ((ln : Int) == 0) = false := by simp; omega
            rw [show gv full (.mk 1 s n []) (.mk 1 b vl) = false from by rw [gv_one _ _ _ _ hbe, hln]; simp [hL]]
            generalize hC : K.rcCells 1 s n (.slice a 0 cap) = C at hW ⊢
            clear hC hbel hcc hl hmax hva0
            try clear h4
            try clear hbe
            try clear hR0
            try clear hR1
            try clear hl
            try clear hcap
            try clear hcb
            try clear hf0
            try clear hc0
            try clear hf1
            try clear hc1
            try clear hv
            try clear hvl
            try clear hfk
            try clear hvmax
            try clear hmx
            try clear ih
            try clear h2
            try clear hb0
            try clear h3
            try clear hL
            try clear hln
            try clear hval
            try clear hfz
            go_enter Tryd.func60, Tryd.ntmps60
            go_upto_region 1 with (first
              | (refine Go.Great.wpList_boxTo rfl _ _ rfl _ rfl w.heap.size rfl C.toArray rfl ?_)
              | fail)
            rw [← hW]
            clear hW
            go_wp2_with fail
            go_ret
            exact ⟨rfl, HBel.out⟩
        ·
          have e3 : (vk == 1) = false := by simp [h3]
          rw [show gv full (.mk 1 s n []) (.mk vk b vl) = false from by rw [gv_one _ _ _ _ hbe, e3]; rfl]
          generalize hC : K.rcCells 1 s n (.slice a 0 cap) = C at hW ⊢
          clear hC hbel hcc hl hmax hva0
          try clear h4
          try clear hbe
          try clear hR0
          try clear hR1
          try clear hl
          try clear hcap
          try clear hcb
          try clear hf0
          try clear hc0
          try clear hf1
          try clear hc1
          try clear hv
          try clear hvl
          try clear hfk
          try clear hvmax
          try clear hmx
          try clear ih
          try clear h2
          try clear hb0
          try clear h3
          try clear hL
          try clear hln
          try clear hval
          try clear hfz
          go_enter Tryd.func60, Tryd.ntmps60
          go_upto_region 1 with (first
            | (refine Go.Great.wpList_boxTo rfl _ _ rfl _ rfl w.heap.size rfl C.toArray rfl ?_)
            | fail)
          rw [← hW]
          clear hW
          go_wp2_with fail
          go_ret
          exact ⟨rfl, HBel.out⟩
      · have nb : ((b : Int) != 0) = true := by simp; omega
        rw [gv_byte (by decide) full s n _ h2 hb0]
        generalize hC : K.rcCells 1 s n (.slice a 0 cap) = C at hW ⊢
        clear hC hbel hcc hl hmax hva0
        try clear h4
        try clear hbe
        try clear hR0
        try clear hR1
        try clear hl
        try clear hcap
        try clear hcb
        try clear hf0
        try clear hc0
        try clear hf1
        try clear hc1
        try clear hv
        try clear hvl
        try clear hfk
        try clear hvmax
        try clear hmx
        try clear ih
        try clear h2
        try clear hb0
        try clear h3
        try clear hL
        try clear hln
        try clear hval
        try clear hfz
        go_enter Tryd.func60, Tryd.ntmps60
        go_upto_region 1 with (first
          | (refine Go.Great.wpList_boxTo rfl _ _ rfl _ rfl w.heap.size rfl C.toArray rfl ?_)
          | fail)
        rw [← hW]
        clear hW
        go_wp2_with fail
        go_ret
        exact ⟨rfl, HBel.out⟩
set_option maxHeartbeats 16000000 in
theorem gvk_2 {m : Nat} (_ih : GoodIH m) (s : BitVec 256) (n : Int)  (vk : Int) (b : Nat) (vl : List Vl) (ln : Nat) (hln : vl.length = ln) (cs ds : List Value) (full : Bool) (w : World) (hv : full = true → (Vl.mk vk b vl).count ≤ 70368744177664)
    (hat : K.Cr.ref w (.mk 2 s n []) cs) (hva : Vl.at w (.mk vk b vl) ds) :
    Calls Tryd.prog 60 #[.agg cs.toArray, .agg ds.toArray, .bool full] w fun e w' => e = .returned (.bool (gv full (.mk 2 s n []) (.mk vk b vl))) ∧ Below w.heap.size w w' := by
    have hva0 := hva
    rw [K.refc_mk] at hat
    obtain ⟨_, _, a, cap, rfl, hmax, hl⟩ := hat
    rw [at_mk, hln] at hva
    obtain ⟨hfk, hfz, va, vcap, rfl, hvmax, hvl⟩ := hva
    have hmx : (ln : Int) ≤ 9223372036854775807 := by unfold maxLen at hvmax; omega
    simp only [List.length_nil] at hl hmax ⊢
    obtain ⟨W, hW⟩ : ∃ W, W = (w.alloc (.cells (K.rcCells 2 s n (.slice a 0 cap)).toArray 57)).alloc (.cells #[.int .i64 vk, .int .u8 b, .slice va ln vcap] 61) := ⟨_, rfl⟩
    have hbel : Below w.heap.size w W := by rw [hW]; exact ((Below.refl _ _).alloc (Nat.le_refl _) _).alloc (by simp) _
    have hcc : K.CCells W w.heap.size 2 s n (.slice a 0 cap) := by rw [hW]; exact (K.ccells_box (World.alloc_heap_new w _)).later (K.alloc_below _ _)
    have hvb : RBox W (w.heap.size + 1) #[.int .i64 vk, .int .u8 b, .slice va ln vcap] := by
      rw [hW]
      have h := rbox_start (w.alloc (.cells (K.rcCells 2 s n (.slice a 0 cap)).toArray 57)) #[.int .i64 vk, .int .u8 b, .slice va ln vcap]
      rw [World.size_alloc] at h
      exact h
    have p0 : W.cell? ⟨w.heap.size, 0, none⟩ = some (.int .i64 2) := hcc.c0
    have p258 : W.cell? ⟨w.heap.size, 258, none⟩ = some (.slice a 0 cap) := hcc.c258
    have c258 := fun L : Later W => (hcc.later L.ok).c258
    have q0 : W.cell? ⟨w.heap.size + 1, 0, none⟩ = some (.int .i64 vk) := by rw [cells_at hvb]; rfl
    have q1 : W.cell? ⟨w.heap.size + 1, 1, none⟩ = some (.int .u8 b) := by rw [cells_at hvb]; rfl
    have q2 : W.cell? ⟨w.heap.size + 1, 2, none⟩ = some (.slice va ln vcap) := by rw [cells_at hvb]; rfl
    have hlw : w.heap.size + 1 < W.heap.size := hvb.lt
    have lq0 := fun L : Later W => (L.cell ⟨w.heap.size + 1, 0, none⟩ hlw).trans q0
    have lq2 := fun L : Later W => (L.cell ⟨w.heap.size + 1, 2, none⟩ hlw).trans q2
    have hvbx : ∀ w', (∃ L : Later W, w' = L.val) → Val3 w' (w.heap.size + 1) 0 [.int .i64 vk, .int .u8 b, .slice va ln vcap] := fun w' hw' => by
      obtain ⟨L, rfl⟩ := hw'
      exact (rval3_in hvb rfl).below hlw L.ok
    have hne := Later.nonempty W
    have HBel := Lib.hid hbel
    have HCC := Lib.hid hcc
    by_cases h2 : vk = 2
    · subst h2
      by_cases hL : ln = 0
      · subst hL
        have pS : W.cell? ⟨w.heap.size, 1 + b, none⟩ = some (.bool (s.getLsbD b)) := hcc.set b hfz
        have hbi : (b : Int) < 256 := by omega
        rw [show gv full (.mk 2 s n []) (.mk 2 b vl) = s.getLsbD b from by rw [gv_two, hln]; rfl]
        generalize s.getLsbD b = r at pS ⊢
        generalize hC : K.rcCells 2 s n (.slice a 0 cap) = C at hW ⊢
        clear hC hbel hcc hl hmax hva0
        try clear h4
        try clear hbe
        try clear hR0
        try clear hR1
        try clear hl
        try clear hcap
        try clear hcb
        try clear hf0
        try clear hc0
        try clear hf1
        try clear hc1
        try clear hv
        try clear hvl
        try clear hfk
        try clear hvmax
        try clear hmx
        try clear ih
        try clear h2
        try clear hb0
        try clear h3
        try clear hL
        try clear hln
        try clear hval
        go_enter Tryd.func60, Tryd.ntmps60
        go_upto_region 1 with (first
          | (refine Go.Great.wpList_boxTo rfl _ _ rfl _ rfl w.heap.size rfl C.toArray rfl ?_)
          | fail)
        rw [← hW]
        clear hW
        go_wp2_with fail
        go_ret
        exact ⟨rfl, HBel.out⟩
      ·
        have eL : ((ln : Int) == 0) = false := by simp; omega
        rw [show gv full (.mk 2 s n []) (.mk 2 b vl) = false from by rw [gv_two, hln]; simp [hL]]
        generalize hC : K.rcCells 2 s n (.slice a 0 cap) = C at hW ⊢
        clear hC hbel hcc hl hmax hva0
        try clear h4
        try clear hbe
        try clear hR0
        try clear hR1
        try clear hl
        try clear hcap
        try clear hcb
        try clear hf0
        try clear hc0
        try clear hf1
        try clear hc1
        try clear hv
        try clear hvl
        try clear hfk
        try clear hvmax
        try clear hmx
        try clear ih
        try clear h2
        try clear hb0
        try clear h3
        try clear hL
        try clear hln
        try clear hval
        try clear hfz
        go_enter Tryd.func60, Tryd.ntmps60
        go_upto_region 1 with (first
          | (refine Go.Great.wpList_boxTo rfl _ _ rfl _ rfl w.heap.size rfl C.toArray rfl ?_)
          | fail)
        rw [← hW]
        clear hW
        go_wp2_with fail
        go_ret
        exact ⟨rfl, HBel.out⟩
    · have n2 : (vk != 2) = true := by simp [h2]
      by_cases hb0 : b = 0
      · have hbe : vk = 2 ∨ b = 0 := .inr hb0
        have nb : ((b : Int) != 0) = false := by simp [hb0]
        have e3 : (vk == 2) = false := by simp [h2]
        rw [show gv full (.mk 2 s n []) (.mk vk b vl) = false from by rw [gv_two, e3]; rfl]
        generalize hC : K.rcCells 2 s n (.slice a 0 cap) = C at hW ⊢
        clear hC hbel hcc hl hmax hva0
        try clear h4
        try clear hbe
        try clear hR0
        try clear hR1
        try clear hl
        try clear hcap
        try clear hcb
        try clear hf0
        try clear hc0
        try clear hf1
        try clear hc1
        try clear hv
        try clear hvl
        try clear hfk
        try clear hvmax
        try clear hmx
        try clear ih
        try clear h2
        try clear hb0
        try clear h3
        try clear hL
        try clear hln
        try clear hval
        try clear hfz
        go_enter Tryd.func60, Tryd.ntmps60
        go_upto_region 1 with (first
          | (refine Go.Great.wpList_boxTo rfl _ _ rfl _ rfl w.heap.size rfl C.toArray rfl ?_)
          | fail)
        rw [← hW]
        clear hW
        go_wp2_with fail
        go_ret
        exact ⟨rfl, HBel.out⟩
      · have nb : ((b : Int) != 0) = true := by simp; omega
        rw [gv_byte (by decide) full s n _ h2 hb0]
        generalize hC : K.rcCells 2 s n (.slice a 0 cap) = C at hW ⊢
        clear hC hbel hcc hl hmax hva0
        try clear h4
        try clear hbe
        try clear hR0
        try clear hR1
        try clear hl
        try clear hcap
        try clear hcb
        try clear hf0
        try clear hc0
        try clear hf1
        try clear hc1
        try clear hv
        try clear hvl
        try clear hfk
        try clear hvmax
        try clear hmx
        try clear ih
        try clear h2
        try clear hb0
        try clear h3
        try clear hL
        try clear hln
        try clear hval
        try clear hfz
        go_enter Tryd.func60, Tryd.ntmps60
        go_upto_region 1 with (first
          | (refine Go.Great.wpList_boxTo rfl _ _ rfl _ rfl w.heap.size rfl C.toArray rfl ?_)
          | fail)
        rw [← hW]
        clear hW
        go_wp2_with fail
        go_ret
        exact ⟨rfl, HBel.out⟩
set_option maxHeartbeats 16000000 in
theorem gvk_6 {m : Nat} (ih : GoodIH m) (s : BitVec 256) (n : Int) (c0 : K.Cr) (hc0 : c0.count ≤ m) (hf0 : c0.form = true) (vk : Int) (b : Nat) (vl : List Vl) (ln : Nat) (hln : vl.length = ln) (cs ds : List Value) (full : Bool) (w : World) (hv : full = true → (Vl.mk vk b vl).count ≤ 70368744177664)
    (hat : K.Cr.ref w (.mk 6 s n [c0]) cs) (hva : Vl.at w (.mk vk b vl) ds) :
    Calls Tryd.prog 60 #[.agg cs.toArray, .agg ds.toArray, .bool full] w fun e w' => e = .returned (.bool (gv full (.mk 6 s n [c0]) (.mk vk b vl))) ∧ Below w.heap.size w w' := by
    have hva0 := hva
    rw [K.refc_mk] at hat
    obtain ⟨_, _, a, cap, rfl, hmax, hl⟩ := hat
    rw [at_mk, hln] at hva
    obtain ⟨hfk, hfz, va, vcap, rfl, hvmax, hvl⟩ := hva
    have hmx : (ln : Int) ≤ 9223372036854775807 := by unfold maxLen at hvmax; omega
    simp only [List.length_cons, List.length_nil, Nat.zero_add] at hl hmax ⊢
    obtain ⟨W, hW⟩ : ∃ W, W = (w.alloc (.cells (K.rcCells 6 s n (.slice a 1 cap)).toArray 57)).alloc (.cells #[.int .i64 vk, .int .u8 b, .slice va ln vcap] 61) := ⟨_, rfl⟩
    have hbel : Below w.heap.size w W := by rw [hW]; exact ((Below.refl _ _).alloc (Nat.le_refl _) _).alloc (by simp) _
    have hcc : K.CCells W w.heap.size 6 s n (.slice a 1 cap) := by rw [hW]; exact (K.ccells_box (World.alloc_heap_new w _)).later (K.alloc_below _ _)
    have hvb : RBox W (w.heap.size + 1) #[.int .i64 vk, .int .u8 b, .slice va ln vcap] := by
      rw [hW]
      have h := rbox_start (w.alloc (.cells (K.rcCells 6 s n (.slice a 1 cap)).toArray 57)) #[.int .i64 vk, .int .u8 b, .slice va ln vcap]
      rw [World.size_alloc] at h
      exact h
    have p0 : W.cell? ⟨w.heap.size, 0, none⟩ = some (.int .i64 6) := hcc.c0
    have p258 : W.cell? ⟨w.heap.size, 258, none⟩ = some (.slice a 1 cap) := hcc.c258
    have c258 := fun L : Later W => (hcc.later L.ok).c258
    have q0 : W.cell? ⟨w.heap.size + 1, 0, none⟩ = some (.int .i64 vk) := by rw [cells_at hvb]; rfl
    have q1 : W.cell? ⟨w.heap.size + 1, 1, none⟩ = some (.int .u8 b) := by rw [cells_at hvb]; rfl
    have q2 : W.cell? ⟨w.heap.size + 1, 2, none⟩ = some (.slice va ln vcap) := by rw [cells_at hvb]; rfl
    have hlw : w.heap.size + 1 < W.heap.size := hvb.lt
    have lq0 := fun L : Later W => (L.cell ⟨w.heap.size + 1, 0, none⟩ hlw).trans q0
    have lq2 := fun L : Later W => (L.cell ⟨w.heap.size + 1, 2, none⟩ hlw).trans q2
    have hvbx : ∀ w', (∃ L : Later W, w' = L.val) → Val3 w' (w.heap.size + 1) 0 [.int .i64 vk, .int .u8 b, .slice va ln vcap] := fun w' hw' => by
      obtain ⟨L, rfl⟩ := hw'
      exact (rval3_in hvb rfl).below hlw L.ok
    have hne := Later.nonempty W
    have HBel := Lib.hid hbel
    have HCC := Lib.hid hcc
    obtain ⟨cb, coff, rfl, hcap, hcb, hcr⟩ := hl.resolve_left (by decide)
    obtain ⟨es0, hes0, hcell0, hch0⟩ := K.coresRef_get w cb [c0] coff hcr 0 (by simp)
    have hE0 : ∀ w', (∃ L : Later W, w' = L.val) → K.RefC w' cb (coff + 0) es0 := fun w' hw' => by
      obtain ⟨L, rfl⟩ := hw'
      exact rc_later ⟨hes0, fun q hq => by rw [hbel.cell (p := ⟨cb, coff + 0 + q, none⟩) hcb]; exact hcell0 q hq⟩ L.ok
    have hR0 : ∀ L : Later W, K.Cr.ref L.val c0 es0 := fun L => K.Cr.ref_below (hbel.trans (L.ok.mono hbel.size)) hch0
    clear hcell0 hch0 hcr
    by_cases h2 : vk = 2
    · subst h2
      rw [show gv full (.mk 6 s n [c0]) (.mk 2 b vl) = false from by rw [gv_six _ _ _ _ (.inl rfl)]; rfl]
      generalize hC : K.rcCells 6 s n (.slice (some ⟨cb, coff, none⟩) 1 cap) = C at hW ⊢
      clear hC hbel hcc hmax hva0
      try clear h4
      try clear hbe
      try clear hR0
      try clear hR1
      try clear hl
      try clear hcap
      try clear hcb
      try clear hf0
      try clear hc0
      try clear hf1
      try clear hc1
      try clear hv
      try clear hvl
      try clear hfk
      try clear hvmax
      try clear hmx
      try clear ih
      try clear h2
      try clear hb0
      try clear h3
      try clear hL
      try clear hln
      try clear hval
      try clear hfz
      go_enter Tryd.func60, Tryd.ntmps60
      go_upto_region 1 with (first
        | (refine Go.Great.wpList_boxTo rfl _ _ rfl _ rfl w.heap.size rfl C.toArray rfl ?_)
        | fail)
      rw [← hW]
      clear hW
      go_wp2_with fail
      refine wp_region_later (W0 := W) (Below.refl _ _) (by kernel_rfl) (by as_aux_lemma => kernel_rfl) ?_
      repeat (first
        | go_big_quiet_skip
        | go_big_quiet_step (fail))
      refine wpQuiet_nil ?_
      intro w' hw'
      obtain ⟨L', rfl⟩ := hw'
      go_wp2_with fail
      go_ret
      exact ⟨rfl, HBel.out.trans (L'.ok.mono HBel.out.size)⟩
    · have n2 : (vk != 2) = true := by simp [h2]
      by_cases hb0 : b = 0
      · have hbe : vk = 2 ∨ b = 0 := .inr hb0
        have nb : ((b : Int) != 0) = false := by simp [hb0]
        by_cases h3 : vk = 7
        · subst h3
          by_cases hL : ln = 1
          · subst hL
            obtain ⟨vb, voff, rfl, hvcap, hvbw, hvn⟩ := hvl.resolve_left (by decide)
            have hcntv : full = true → counts vl ≤ 70368744177664 := fun hfu => by have hv' := hv hfu; rw [count_mk] at hv'; omega
            obtain ⟨ds0, hvc0, hvch0⟩ := vals_get w vb vl voff hvn 0 (by omega)
            have hV0 : ∀ w', (∃ L : Later W, w' = L.val) → Val3 w' vb (voff + 0) ds0 := fun w' hw' => by
              obtain ⟨L, rfl⟩ := hw'
              exact (hvc0.below hvbw hbel).below (Nat.lt_of_lt_of_le hvbw hbel.size) L.ok
            have hX0 : full = true → vl[0].count ≤ 70368744177664 := fun hfu => Nat.le_trans (counts_mem (List.getElem_mem _)) (hcntv hfu)
            have hY0 : ∀ L : Later W, Vl.at L.val vl[0] ds0 := fun L => Vl.at_below (hbel.trans (L.ok.mono hbel.size)) (Nat.le_refl _) _ _ hvch0
            have hcall0 := fun L : Later W => ih c0 vl[0] es0 ds0 full L.val hc0 hf0 hX0 (hR0 L) (hY0 L)
            rw [show gv full (.mk 6 s n [c0]) (.mk 7 b vl) = gv full c0 vl[0] from by rw [gv_six _ _ _ _ hbe, decide_eq_true hln, getD_at _ _ (by omega)]; rfl]
            generalize gv full c0 vl[0] = r at hcall0 ⊢
            generalize hC : K.rcCells 6 s n (.slice (some ⟨cb, coff, none⟩) 1 cap) = C at hW ⊢
            clear hC hbel hcc hmax hva0
            try clear h4
            try clear hbe
            try clear hR0
            try clear hR1
            try clear hl
            try clear hcap
            try clear hcb
            try clear hf0
            try clear hc0
            try clear hf1
            try clear hc1
            try clear hv
            try clear hvl
            try clear hfk
            try clear hvmax
            try clear hmx
            try clear ih
            try clear h2
            try clear hb0
            try clear h3
            try clear hL
            try clear hln
            try clear hval
            try clear hfz
            try clear hvcap
            try clear hvbw
            try clear hvn
            try clear hcntv
            try clear hvc0
            try clear hvc1
            try clear hvch0
            try clear hvch1
            try clear hX0
            try clear hX1
            try clear hY0
            try clear hY1
            go_enter Tryd.func60, Tryd.ntmps60
            go_upto_region 1 with (first
              | (refine Go.Great.wpList_boxTo rfl _ _ rfl _ rfl w.heap.size rfl C.toArray rfl ?_)
              | fail)
            rw [← hW]
            clear hW
            go_wp2_with fail
            refine wp_region_later (W0 := W) (Below.refl _ _) (by kernel_rfl) (by as_aux_lemma => kernel_rfl) ?_
            repeat (first
              | go_big_quiet_skip
              | (go_big_quiet_want; refine quiet_load_rc _ rfl cb (coff + 0) es0 rfl hE0 ?_; go_big_quiet_on; simp only [Act.put, List.setIfInBounds_toArray, List.set_cons_zero, List.set_cons_succ])
              | (go_big_quiet_want; refine quiet_load_refval _ rfl vb (voff + 0) ds0 rfl hV0 ?_; go_big_quiet_on; simp only [Act.put, List.setIfInBounds_toArray, List.set_cons_zero, List.set_cons_succ])
              | go_big_quiet_step (fail))
            go_big_quiet_step (exact Later.calls (hcall0 _))
            repeat (first
              | go_big_quiet_skip
              | (go_big_quiet_want; refine quiet_load_rc _ rfl cb (coff + 0) es0 rfl hE0 ?_; go_big_quiet_on; simp only [Act.put, List.setIfInBounds_toArray, List.set_cons_zero, List.set_cons_succ])
              | (go_big_quiet_want; refine quiet_load_refval _ rfl vb (voff + 0) ds0 rfl hV0 ?_; go_big_quiet_on; simp only [Act.put, List.setIfInBounds_toArray, List.set_cons_zero, List.set_cons_succ])
              | go_big_quiet_step (fail))
            refine wpQuiet_nil ?_
            intro w' hw'
            obtain ⟨L', rfl⟩ := hw'
            go_wp2_with fail
            go_ret
            exact ⟨rfl, HBel.out.trans (L'.ok.mono HBel.out.size)⟩
          ·
            have eL : ((ln : Int) == 1) = false := by simp; omega
            rw [show gv full (.mk 6 s n [c0]) (.mk 7 b vl) = false from by rw [gv_six _ _ _ _ hbe, hln, decide_eq_false hL]; simp]
            generalize hC : K.rcCells 6 s n (.slice (some ⟨cb, coff, none⟩) 1 cap) = C at hW ⊢
            clear hC hbel hcc hmax hva0
            try clear h4
            try clear hbe
            try clear hR0
            try clear hR1
            try clear hl
            try clear hcap
            try clear hcb
            try clear hf0
            try clear hc0
            try clear hf1
            try clear hc1
            try clear hv
            try clear hvl
            try clear hfk
            try clear hvmax
            try clear hmx
            try clear ih
            try clear h2
            try clear hb0
            try clear h3
            try clear hL
            try clear hln
            try clear hval
            try clear hfz
            go_enter Tryd.func60, Tryd.ntmps60
            go_upto_region 1 with (first
              | (refine Go.Great.wpList_boxTo rfl _ _ rfl _ rfl w.heap.size rfl C.toArray rfl ?_)
              | fail)
            rw [← hW]
            clear hW
            go_wp2_with fail
            refine wp_region_later (W0 := W) (Below.refl _ _) (by kernel_rfl) (by as_aux_lemma => kernel_rfl) ?_
            repeat (first
              | go_big_quiet_skip
              | go_big_quiet_step (fail))
            refine wpQuiet_nil ?_
            intro w' hw'
            obtain ⟨L', rfl⟩ := hw'
            go_wp2_with fail
            go_ret
            exact ⟨rfl, HBel.out.trans (L'.ok.mono HBel.out.size)⟩
        ·
          have e3 : (vk == 7) = false := by simp [h3]
          rw [show gv full (.mk 6 s n [c0]) (.mk vk b vl) = false from by rw [gv_six _ _ _ _ hbe, e3]; rfl]
          generalize hC : K.rcCells 6 s n (.slice (some ⟨cb, coff, none⟩) 1 cap) = C at hW ⊢
          clear hC hbel hcc hmax hva0
          try clear h4
          try clear hbe
          try clear hR0
          try clear hR1
          try clear hl
          try clear hcap
          try clear hcb
          try clear hf0
          try clear hc0
          try clear hf1
          try clear hc1
          try clear hv
          try clear hvl
          try clear hfk
          try clear hvmax
          try clear hmx
          try clear ih
          try clear h2
          try clear hb0
          try clear h3
          try clear hL
          try clear hln
          try clear hval
          try clear hfz
          go_enter Tryd.func60, Tryd.ntmps60
          go_upto_region 1 with (first
            | (refine Go.Great.wpList_boxTo rfl _ _ rfl _ rfl w.heap.size rfl C.toArray rfl ?_)
            | fail)
          rw [← hW]
          clear hW
          go_wp2_with fail
          refine wp_region_later (W0 := W) (Below.refl _ _) (by kernel_rfl) (by as_aux_lemma => kernel_rfl) ?_
          repeat (first
            | go_big_quiet_skip
            | go_big_quiet_step (fail))
          refine wpQuiet_nil ?_
          intro w' hw'
          obtain ⟨L', rfl⟩ := hw'
          go_wp2_with fail
          go_ret
          exact ⟨rfl, HBel.out.trans (L'.ok.mono HBel.out.size)⟩
      · have nb : ((b : Int) != 0) = true := by simp; omega
        rw [gv_byte (by decide) full s n _ h2 hb0]
        generalize hC : K.rcCells 6 s n (.slice (some ⟨cb, coff, none⟩) 1 cap) = C at hW ⊢
        clear hC hbel hcc hmax hva0
        try clear h4
        try clear hbe
        try clear hR0
        try clear hR1
        try clear hl
        try clear hcap
        try clear hcb
        try clear hf0
        try clear hc0
        try clear hf1
        try clear hc1
        try clear hv
        try clear hvl
        try clear hfk
        try clear hvmax
        try clear hmx
        try clear ih
        try clear h2
        try clear hb0
        try clear h3
        try clear hL
        try clear hln
        try clear hval
        try clear hfz
        go_enter Tryd.func60, Tryd.ntmps60
        go_upto_region 1 with (first
          | (refine Go.Great.wpList_boxTo rfl _ _ rfl _ rfl w.heap.size rfl C.toArray rfl ?_)
          | fail)
        rw [← hW]
        clear hW
        go_wp2_with fail
        go_ret
        exact ⟨rfl, HBel.out⟩
set_option maxHeartbeats 16000000 in
theorem gvk_3 {m : Nat} (ih : GoodIH m) (s : BitVec 256) (n : Int) (c0 : K.Cr) (hc0 : c0.count ≤ m) (hf0 : c0.form = true) (c1 : K.Cr) (hc1 : c1.count ≤ m) (hf1 : c1.form = true) (vk : Int) (b : Nat) (vl : List Vl) (ln : Nat) (hln : vl.length = ln) (cs ds : List Value) (full : Bool) (w : World) (hv : full = true → (Vl.mk vk b vl).count ≤ 70368744177664)
    (hat : K.Cr.ref w (.mk 3 s n [c0, c1]) cs) (hva : Vl.at w (.mk vk b vl) ds) :
    Calls Tryd.prog 60 #[.agg cs.toArray, .agg ds.toArray, .bool full] w fun e w' => e = .returned (.bool (gv full (.mk 3 s n [c0, c1]) (.mk vk b vl))) ∧ Below w.heap.size w w' := by
    have hva0 := hva
    rw [K.refc_mk] at hat
    obtain ⟨_, _, a, cap, rfl, hmax, hl⟩ := hat
    rw [at_mk, hln] at hva
    obtain ⟨hfk, hfz, va, vcap, rfl, hvmax, hvl⟩ := hva
    have hmx : (ln : Int) ≤ 9223372036854775807 := by unfold maxLen at hvmax; omega
    simp only [List.length_cons, List.length_nil, Nat.zero_add] at hl hmax ⊢
    obtain ⟨W, hW⟩ : ∃ W, W = (w.alloc (.cells (K.rcCells 3 s n (.slice a 2 cap)).toArray 57)).alloc (.cells #[.int .i64 vk, .int .u8 b, .slice va ln vcap] 61) := ⟨_, rfl⟩
    have hbel : Below w.heap.size w W := by rw [hW]; exact ((Below.refl _ _).alloc (Nat.le_refl _) _).alloc (by simp) _
    have hcc : K.CCells W w.heap.size 3 s n (.slice a 2 cap) := by rw [hW]; exact (K.ccells_box (World.alloc_heap_new w _)).later (K.alloc_below _ _)
    have hvb : RBox W (w.heap.size + 1) #[.int .i64 vk, .int .u8 b, .slice va ln vcap] := by
      rw [hW]
      have h := rbox_start (w.alloc (.cells (K.rcCells 3 s n (.slice a 2 cap)).toArray 57)) #[.int .i64 vk, .int .u8 b, .slice va ln vcap]
      rw [World.size_alloc] at h
      exact h
    have p0 : W.cell? ⟨w.heap.size, 0, none⟩ = some (.int .i64 3) := hcc.c0
    have p258 : W.cell? ⟨w.heap.size, 258, none⟩ = some (.slice a 2 cap) := hcc.c258
    have c258 := fun L : Later W => (hcc.later L.ok).c258
    have q0 : W.cell? ⟨w.heap.size + 1, 0, none⟩ = some (.int .i64 vk) := by rw [cells_at hvb]; rfl
    have q1 : W.cell? ⟨w.heap.size + 1, 1, none⟩ = some (.int .u8 b) := by rw [cells_at hvb]; rfl
    have q2 : W.cell? ⟨w.heap.size + 1, 2, none⟩ = some (.slice va ln vcap) := by rw [cells_at hvb]; rfl
    have hlw : w.heap.size + 1 < W.heap.size := hvb.lt
    have lq0 := fun L : Later W => (L.cell ⟨w.heap.size + 1, 0, none⟩ hlw).trans q0
    have lq2 := fun L : Later W => (L.cell ⟨w.heap.size + 1, 2, none⟩ hlw).trans q2
    have hvbx : ∀ w', (∃ L : Later W, w' = L.val) → Val3 w' (w.heap.size + 1) 0 [.int .i64 vk, .int .u8 b, .slice va ln vcap] := fun w' hw' => by
      obtain ⟨L, rfl⟩ := hw'
      exact (rval3_in hvb rfl).below hlw L.ok
    have hne := Later.nonempty W
    have HBel := Lib.hid hbel
    have HCC := Lib.hid hcc
    obtain ⟨cb, coff, rfl, hcap, hcb, hcr⟩ := hl.resolve_left (by decide)
    obtain ⟨es0, hes0, hcell0, hch0⟩ := K.coresRef_get w cb [c0, c1] coff hcr 0 (by simp)
    have hE0 : ∀ w', (∃ L : Later W, w' = L.val) → K.RefC w' cb (coff + 0) es0 := fun w' hw' => by
      obtain ⟨L, rfl⟩ := hw'
      exact rc_later ⟨hes0, fun q hq => by rw [hbel.cell (p := ⟨cb, coff + 0 + q, none⟩) hcb]; exact hcell0 q hq⟩ L.ok
    have hR0 : ∀ L : Later W, K.Cr.ref L.val c0 es0 := fun L => K.Cr.ref_below (hbel.trans (L.ok.mono hbel.size)) hch0
    obtain ⟨es1, hes1, hcell1, hch1⟩ := K.coresRef_get w cb [c0, c1] coff hcr 1 (by simp)
    have hE1 : ∀ w', (∃ L : Later W, w' = L.val) → K.RefC w' cb (coff + 259) es1 := fun w' hw' => by
      obtain ⟨L, rfl⟩ := hw'
      exact rc_later ⟨hes1, fun q hq => by rw [hbel.cell (p := ⟨cb, coff + 259 + q, none⟩) hcb]; exact hcell1 q hq⟩ L.ok
    have hR1 : ∀ L : Later W, K.Cr.ref L.val c1 es1 := fun L => K.Cr.ref_below (hbel.trans (L.ok.mono hbel.size)) hch1
    clear hcell0 hch0 hcell1 hch1 hcr
    by_cases h2 : vk = 2
    · subst h2
      rw [show gv full (.mk 3 s n [c0, c1]) (.mk 2 b vl) = false from by rw [gv_three _ _ _ _ _ (.inl rfl)]; rfl]
      generalize hC : K.rcCells 3 s n (.slice (some ⟨cb, coff, none⟩) 2 cap) = C at hW ⊢
      clear hC hbel hcc hmax hva0
      try clear h4
      try clear hbe
      try clear hR0
      try clear hR1
      try clear hl
      try clear hcap
      try clear hcb
      try clear hf0
      try clear hc0
      try clear hf1
      try clear hc1
      try clear hv
      try clear hvl
      try clear hfk
      try clear hvmax
      try clear hmx
      try clear ih
      try clear h2
      try clear hb0
      try clear h3
      try clear hL
      try clear hln
      try clear hval
      try clear hfz
      go_enter Tryd.func60, Tryd.ntmps60
      go_upto_region 1 with (first
        | (refine Go.Great.wpList_boxTo rfl _ _ rfl _ rfl w.heap.size rfl C.toArray rfl ?_)
        | fail)
      rw [← hW]
      clear hW
      go_wp2_with fail
      refine wp_region_later (W0 := W) (Below.refl _ _) (by kernel_rfl) (by as_aux_lemma => kernel_rfl) ?_
      repeat (first
        | go_big_quiet_skip
        | go_big_quiet_step (fail))
      refine wpQuiet_nil ?_
      intro w' hw'
      obtain ⟨L', rfl⟩ := hw'
      go_wp2_with fail
      go_ret
      exact ⟨rfl, HBel.out.trans (L'.ok.mono HBel.out.size)⟩
    · have n2 : (vk != 2) = true := by simp [h2]
      by_cases hb0 : b = 0
      · have hbe : vk = 2 ∨ b = 0 := .inr hb0
        have nb : ((b : Int) != 0) = false := by simp [hb0]
        by_cases h3 : vk = 3
        · subst h3
          by_cases hL : ln = 2
          · subst hL
            obtain ⟨vb, voff, rfl, hvcap, hvbw, hvn⟩ := hvl.resolve_left (by decide)
            have hcntv : full = true → counts vl ≤ 70368744177664 := fun hfu => by have hv' := hv hfu; rw [count_mk] at hv'; omega
            obtain ⟨ds0, hvc0, hvch0⟩ := vals_get w vb vl voff hvn 0 (by omega)
            have hV0 : ∀ w', (∃ L : Later W, w' = L.val) → Val3 w' vb (voff + 0) ds0 := fun w' hw' => by
              obtain ⟨L, rfl⟩ := hw'
              exact (hvc0.below hvbw hbel).below (Nat.lt_of_lt_of_le hvbw hbel.size) L.ok
            have hX0 : full = true → vl[0].count ≤ 70368744177664 := fun hfu => Nat.le_trans (counts_mem (List.getElem_mem _)) (hcntv hfu)
            have hY0 : ∀ L : Later W, Vl.at L.val vl[0] ds0 := fun L => Vl.at_below (hbel.trans (L.ok.mono hbel.size)) (Nat.le_refl _) _ _ hvch0
            obtain ⟨ds1, hvc1, hvch1⟩ := vals_get w vb vl voff hvn 1 (by omega)
            have hV1 : ∀ w', (∃ L : Later W, w' = L.val) → Val3 w' vb (voff + 3) ds1 := fun w' hw' => by
              obtain ⟨L, rfl⟩ := hw'
              exact (hvc1.below hvbw hbel).below (Nat.lt_of_lt_of_le hvbw hbel.size) L.ok
            have hX1 : full = true → vl[1].count ≤ 70368744177664 := fun hfu => Nat.le_trans (counts_mem (List.getElem_mem _)) (hcntv hfu)
            have hY1 : ∀ L : Later W, Vl.at L.val vl[1] ds1 := fun L => Vl.at_below (hbel.trans (L.ok.mono hbel.size)) (Nat.le_refl _) _ _ hvch1
            have hcall0 := fun L : Later W => ih c0 vl[0] es0 ds0 full L.val hc0 hf0 hX0 (hR0 L) (hY0 L)
            have hcall1 := fun L : Later W => ih c1 vl[1] es1 ds1 full L.val hc1 hf1 hX1 (hR1 L) (hY1 L)
            rw [show gv full (.mk 3 s n [c0, c1]) (.mk 3 b vl) = (gv full c0 vl[0] && gv full c1 vl[1]) from by rw [gv_three _ _ _ _ _ hbe, decide_eq_true hln, getD_at _ _ (by omega), getD_at _ _ (by omega)]; simp]
            generalize gv full c0 vl[0] = r0 at hcall0 ⊢
            generalize gv full c1 vl[1] = r1 at hcall1 ⊢
            cases r0 with
            | false =>
              rw [Bool.false_and]
              generalize hC : K.rcCells 3 s n (.slice (some ⟨cb, coff, none⟩) 2 cap) = C at hW ⊢
              clear hC hbel hcc hmax hva0
              try clear h4
              try clear hbe
              try clear hR0
              try clear hR1
              try clear hl
              try clear hcap
              try clear hcb
              try clear hf0
              try clear hc0
              try clear hf1
              try clear hc1
              try clear hv
              try clear hvl
              try clear hfk
              try clear hvmax
              try clear hmx
              try clear ih
              try clear h2
              try clear hb0
              try clear h3
              try clear hL
              try clear hln
              try clear hval
              try clear hfz
              try clear hvcap
              try clear hvbw
              try clear hvn
              try clear hcntv
              try clear hvc0
              try clear hvc1
              try clear hvch0
              try clear hvch1
              try clear hX0
              try clear hX1
              try clear hY0
              try clear hY1
              try clear hcall1
              go_enter Tryd.func60, Tryd.ntmps60
              go_upto_region 1 with (first
                | (refine Go.Great.wpList_boxTo rfl _ _ rfl _ rfl w.heap.size rfl C.toArray rfl ?_)
                | fail)
              rw [← hW]
              clear hW
              go_wp2_with fail
              refine wp_region_later (W0 := W) (Below.refl _ _) (by kernel_rfl) (by as_aux_lemma => kernel_rfl) ?_
              repeat (first
                | go_big_quiet_skip
                | (go_big_quiet_want; refine quiet_load_rc _ rfl cb (coff + 0) es0 rfl hE0 ?_; go_big_quiet_on; simp only [Act.put, List.setIfInBounds_toArray, List.set_cons_zero, List.set_cons_succ])
                | (go_big_quiet_want; refine quiet_load_refval _ rfl vb (voff + 0) ds0 rfl hV0 ?_; go_big_quiet_on; simp only [Act.put, List.setIfInBounds_toArray, List.set_cons_zero, List.set_cons_succ])
                | go_big_quiet_step (fail))
              go_big_quiet_step (exact Later.calls (hcall0 _))
              repeat (first
                | go_big_quiet_skip
                | (go_big_quiet_want; refine quiet_load_rc _ rfl cb (coff + 0) es0 rfl hE0 ?_; go_big_quiet_on; simp only [Act.put, List.setIfInBounds_toArray, List.set_cons_zero, List.set_cons_succ])
                | (go_big_quiet_want; refine quiet_load_refval _ rfl vb (voff + 0) ds0 rfl hV0 ?_; go_big_quiet_on; simp only [Act.put, List.setIfInBounds_toArray, List.set_cons_zero, List.set_cons_succ])
                | go_big_quiet_step (fail))
              refine wpQuiet_nil ?_
              intro w' hw'
              obtain ⟨L', rfl⟩ := hw'
              go_wp2_with fail
              go_ret
              exact ⟨rfl, HBel.out.trans (L'.ok.mono HBel.out.size)⟩
            | true =>
              rw [Bool.true_and]
              generalize hC : K.rcCells 3 s n (.slice (some ⟨cb, coff, none⟩) 2 cap) = C at hW ⊢
              clear hC hbel hcc hmax hva0
              try clear h4
              try clear hbe
              try clear hR0
              try clear hR1
              try clear hl
              try clear hcap
              try clear hcb
              try clear hf0
              try clear hc0
              try clear hf1
              try clear hc1
              try clear hv
              try clear hvl
              try clear hfk
              try clear hvmax
              try clear hmx
              try clear ih
              try clear h2
              try clear hb0
              try clear h3
              try clear hL
              try clear hln
              try clear hval
              try clear hfz
              try clear hvcap
              try clear hvbw
              try clear hvn
              try clear hcntv
              try clear hvc0
              try clear hvc1
              try clear hvch0
              try clear hvch1
              try clear hX0
              try clear hX1
              try clear hY0
              try clear hY1
              go_enter Tryd.func60, Tryd.ntmps60
              go_upto_region 1 with (first
                | (refine Go.Great.wpList_boxTo rfl _ _ rfl _ rfl w.heap.size rfl C.toArray rfl ?_)
                | fail)
              rw [← hW]
              clear hW
              go_wp2_with fail
              refine wp_region_later (W0 := W) (Below.refl _ _) (by kernel_rfl) (by as_aux_lemma => kernel_rfl) ?_
              repeat (first
                | go_big_quiet_skip
                | (go_big_quiet_want; refine quiet_load_rc _ rfl cb (coff + 0) es0 rfl hE0 ?_; go_big_quiet_on; simp only [Act.put, List.setIfInBounds_toArray, List.set_cons_zero, List.set_cons_succ])
                | (go_big_quiet_want; refine quiet_load_refval _ rfl vb (voff + 0) ds0 rfl hV0 ?_; go_big_quiet_on; simp only [Act.put, List.setIfInBounds_toArray, List.set_cons_zero, List.set_cons_succ])
                | (go_big_quiet_want; refine quiet_load_rc _ rfl cb (coff + 259) es1 rfl hE1 ?_; go_big_quiet_on; simp only [Act.put, List.setIfInBounds_toArray, List.set_cons_zero, List.set_cons_succ])
                | (go_big_quiet_want; refine quiet_load_refval _ rfl vb (voff + 3) ds1 rfl hV1 ?_; go_big_quiet_on; simp only [Act.put, List.setIfInBounds_toArray, List.set_cons_zero, List.set_cons_succ])
                | go_big_quiet_step (fail))
              go_big_quiet_step (exact Later.calls (hcall0 _))
              repeat (first
                | go_big_quiet_skip
                | (go_big_quiet_want; refine quiet_load_rc _ rfl cb (coff + 0) es0 rfl hE0 ?_; go_big_quiet_on; simp only [Act.put, List.setIfInBounds_toArray, List.set_cons_zero, List.set_cons_succ])
                | (go_big_quiet_want; refine quiet_load_refval _ rfl vb (voff + 0) ds0 rfl hV0 ?_; go_big_quiet_on; simp only [Act.put, List.setIfInBounds_toArray, List.set_cons_zero, List.set_cons_succ])
                | (go_big_quiet_want; refine quiet_load_rc _ rfl cb (coff + 259) es1 rfl hE1 ?_; go_big_quiet_on; simp only [Act.put, List.setIfInBounds_toArray, List.set_cons_zero, List.set_cons_succ])
                | (go_big_quiet_want; refine quiet_load_refval _ rfl vb (voff + 3) ds1 rfl hV1 ?_; go_big_quiet_on; simp only [Act.put, List.setIfInBounds_toArray, List.set_cons_zero, List.set_cons_succ])
                | go_big_quiet_step (fail))
              go_big_quiet_step (exact Later.calls (hcall1 _))
              repeat (first
                | go_big_quiet_skip
                | (go_big_quiet_want; refine quiet_load_rc _ rfl cb (coff + 0) es0 rfl hE0 ?_; go_big_quiet_on; simp only [Act.put, List.setIfInBounds_toArray, List.set_cons_zero, List.set_cons_succ])
                | (go_big_quiet_want; refine quiet_load_refval _ rfl vb (voff + 0) ds0 rfl hV0 ?_; go_big_quiet_on; simp only [Act.put, List.setIfInBounds_toArray, List.set_cons_zero, List.set_cons_succ])
                | (go_big_quiet_want; refine quiet_load_rc _ rfl cb (coff + 259) es1 rfl hE1 ?_; go_big_quiet_on; simp only [Act.put, List.setIfInBounds_toArray, List.set_cons_zero, List.set_cons_succ])
                | (go_big_quiet_want; refine quiet_load_refval _ rfl vb (voff + 3) ds1 rfl hV1 ?_; go_big_quiet_on; simp only [Act.put, List.setIfInBounds_toArray, List.set_cons_zero, List.set_cons_succ])
                | go_big_quiet_step (fail))
              refine wpQuiet_nil ?_
              intro w' hw'
              obtain ⟨L', rfl⟩ := hw'
              go_wp2_with fail
              go_ret
              exact ⟨rfl, HBel.out.trans (L'.ok.mono HBel.out.size)⟩
          ·
            have eL : ((ln : Int) == 2) = false := by simp; omega
            rw [show gv full (.mk 3 s n [c0, c1]) (.mk 3 b vl) = false from by rw [gv_three _ _ _ _ _ hbe, hln, decide_eq_false hL]; simp]
            generalize hC : K.rcCells 3 s n (.slice (some ⟨cb, coff, none⟩) 2 cap) = C at hW ⊢
            clear hC hbel hcc hmax hva0
            try clear h4
            try clear hbe
            try clear hR0
            try clear hR1
            try clear hl
            try clear hcap
            try clear hcb
            try clear hf0
            try clear hc0
            try clear hf1
            try clear hc1
            try clear hv
            try clear hvl
            try clear hfk
            try clear hvmax
            try clear hmx
            try clear ih
            try clear h2
            try clear hb0
            try clear h3
            try clear hL
            try clear hln
            try clear hval
            try clear hfz
            go_enter Tryd.func60, Tryd.ntmps60
            go_upto_region 1 with (first
              | (refine Go.Great.wpList_boxTo rfl _ _ rfl _ rfl w.heap.size rfl C.toArray rfl ?_)
              | fail)
            rw [← hW]
            clear hW
            go_wp2_with fail
            refine wp_region_later (W0 := W) (Below.refl _ _) (by kernel_rfl) (by as_aux_lemma => kernel_rfl) ?_
            repeat (first
              | go_big_quiet_skip
              | go_big_quiet_step (fail))
            refine wpQuiet_nil ?_
            intro w' hw'
            obtain ⟨L', rfl⟩ := hw'
            go_wp2_with fail
            go_ret
            exact ⟨rfl, HBel.out.trans (L'.ok.mono HBel.out.size)⟩
        ·
          have e3 : (vk == 3) = false := by simp [h3]
          rw [show gv full (.mk 3 s n [c0, c1]) (.mk vk b vl) = false from by rw [gv_three _ _ _ _ _ hbe, e3]; rfl]
          generalize hC : K.rcCells 3 s n (.slice (some ⟨cb, coff, none⟩) 2 cap) = C at hW ⊢
          clear hC hbel hcc hmax hva0
          try clear h4
          try clear hbe
          try clear hR0
          try clear hR1
          try clear hl
          try clear hcap
          try clear hcb
          try clear hf0
          try clear hc0
          try clear hf1
          try clear hc1
          try clear hv
          try clear hvl
          try clear hfk
          try clear hvmax
          try clear hmx
          try clear ih
          try clear h2
          try clear hb0
          try clear h3
          try clear hL
          try clear hln
          try clear hval
          try clear hfz
          go_enter Tryd.func60, Tryd.ntmps60
          go_upto_region 1 with (first
            | (refine Go.Great.wpList_boxTo rfl _ _ rfl _ rfl w.heap.size rfl C.toArray rfl ?_)
            | fail)
          rw [← hW]
          clear hW
          go_wp2_with fail
          refine wp_region_later (W0 := W) (Below.refl _ _) (by kernel_rfl) (by as_aux_lemma => kernel_rfl) ?_
          repeat (first
            | go_big_quiet_skip
            | go_big_quiet_step (fail))
          refine wpQuiet_nil ?_
          intro w' hw'
          obtain ⟨L', rfl⟩ := hw'
          go_wp2_with fail
          go_ret
          exact ⟨rfl, HBel.out.trans (L'.ok.mono HBel.out.size)⟩
      · have nb : ((b : Int) != 0) = true := by simp; omega
        rw [gv_byte (by decide) full s n _ h2 hb0]
        generalize hC : K.rcCells 3 s n (.slice (some ⟨cb, coff, none⟩) 2 cap) = C at hW ⊢
        clear hC hbel hcc hmax hva0
        try clear h4
        try clear hbe
        try clear hR0
        try clear hR1
        try clear hl
        try clear hcap
        try clear hcb
        try clear hf0
        try clear hc0
        try clear hf1
        try clear hc1
        try clear hv
        try clear hvl
        try clear hfk
        try clear hvmax
        try clear hmx
        try clear ih
        try clear h2
        try clear hb0
        try clear h3
        try clear hL
        try clear hln
        try clear hval
        try clear hfz
        go_enter Tryd.func60, Tryd.ntmps60
        go_upto_region 1 with (first
          | (refine Go.Great.wpList_boxTo rfl _ _ rfl _ rfl w.heap.size rfl C.toArray rfl ?_)
          | fail)
        rw [← hW]
        clear hW
        go_wp2_with fail
        go_ret
        exact ⟨rfl, HBel.out⟩
set_option maxHeartbeats 16000000 in
theorem gvk_4 {m : Nat} (ih : GoodIH m) (s : BitVec 256) (n : Int) (c0 : K.Cr) (hc0 : c0.count ≤ m) (hf0 : c0.form = true) (c1 : K.Cr) (hc1 : c1.count ≤ m) (hf1 : c1.form = true) (vk : Int) (b : Nat) (vl : List Vl) (ln : Nat) (hln : vl.length = ln) (cs ds : List Value) (full : Bool) (w : World) (hv : full = true → (Vl.mk vk b vl).count ≤ 70368744177664)
    (hat : K.Cr.ref w (.mk 4 s n [c0, c1]) cs) (hva : Vl.at w (.mk vk b vl) ds) :
    Calls Tryd.prog 60 #[.agg cs.toArray, .agg ds.toArray, .bool full] w fun e w' => e = .returned (.bool (gv full (.mk 4 s n [c0, c1]) (.mk vk b vl))) ∧ Below w.heap.size w w' := by
    have hva0 := hva
    rw [K.refc_mk] at hat
    obtain ⟨_, _, a, cap, rfl, hmax, hl⟩ := hat
    rw [at_mk, hln] at hva
    obtain ⟨hfk, hfz, va, vcap, rfl, hvmax, hvl⟩ := hva
    have hmx : (ln : Int) ≤ 9223372036854775807 := by unfold maxLen at hvmax; omega
    simp only [List.length_cons, List.length_nil, Nat.zero_add] at hl hmax ⊢
    obtain ⟨W, hW⟩ : ∃ W, W = (w.alloc (.cells (K.rcCells 4 s n (.slice a 2 cap)).toArray 57)).alloc (.cells #[.int .i64 vk, .int .u8 b, .slice va ln vcap] 61) := ⟨_, rfl⟩
    have hbel : Below w.heap.size w W := by rw [hW]; exact ((Below.refl _ _).alloc (Nat.le_refl _) _).alloc (by simp) _
    have hcc : K.CCells W w.heap.size 4 s n (.slice a 2 cap) := by rw [hW]; exact (K.ccells_box (World.alloc_heap_new w _)).later (K.alloc_below _ _)
    have hvb : RBox W (w.heap.size + 1) #[.int .i64 vk, .int .u8 b, .slice va ln vcap] := by
      rw [hW]
      have h := rbox_start (w.alloc (.cells (K.rcCells 4 s n (.slice a 2 cap)).toArray 57)) #[.int .i64 vk, .int .u8 b, .slice va ln vcap]
      rw [World.size_alloc] at h
      exact h
    have p0 : W.cell? ⟨w.heap.size, 0, none⟩ = some (.int .i64 4) := hcc.c0
    have p258 : W.cell? ⟨w.heap.size, 258, none⟩ = some (.slice a 2 cap) := hcc.c258
    have c258 := fun L : Later W => (hcc.later L.ok).c258
    have q0 : W.cell? ⟨w.heap.size + 1, 0, none⟩ = some (.int .i64 vk) := by rw [cells_at hvb]; rfl
    have q1 : W.cell? ⟨w.heap.size + 1, 1, none⟩ = some (.int .u8 b) := by rw [cells_at hvb]; rfl
    have q2 : W.cell? ⟨w.heap.size + 1, 2, none⟩ = some (.slice va ln vcap) := by rw [cells_at hvb]; rfl
    have hlw : w.heap.size + 1 < W.heap.size := hvb.lt
    have lq0 := fun L : Later W => (L.cell ⟨w.heap.size + 1, 0, none⟩ hlw).trans q0
    have lq2 := fun L : Later W => (L.cell ⟨w.heap.size + 1, 2, none⟩ hlw).trans q2
    have hvbx : ∀ w', (∃ L : Later W, w' = L.val) → Val3 w' (w.heap.size + 1) 0 [.int .i64 vk, .int .u8 b, .slice va ln vcap] := fun w' hw' => by
      obtain ⟨L, rfl⟩ := hw'
      exact (rval3_in hvb rfl).below hlw L.ok
    have hne := Later.nonempty W
    have HBel := Lib.hid hbel
    have HCC := Lib.hid hcc
    obtain ⟨cb, coff, rfl, hcap, hcb, hcr⟩ := hl.resolve_left (by decide)
    obtain ⟨es0, hes0, hcell0, hch0⟩ := K.coresRef_get w cb [c0, c1] coff hcr 0 (by simp)
    have hE0 : ∀ w', (∃ L : Later W, w' = L.val) → K.RefC w' cb (coff + 0) es0 := fun w' hw' => by
      obtain ⟨L, rfl⟩ := hw'
      exact rc_later ⟨hes0, fun q hq => by rw [hbel.cell (p := ⟨cb, coff + 0 + q, none⟩) hcb]; exact hcell0 q hq⟩ L.ok
    have hR0 : ∀ L : Later W, K.Cr.ref L.val c0 es0 := fun L => K.Cr.ref_below (hbel.trans (L.ok.mono hbel.size)) hch0
    obtain ⟨es1, hes1, hcell1, hch1⟩ := K.coresRef_get w cb [c0, c1] coff hcr 1 (by simp)
    have hE1 : ∀ w', (∃ L : Later W, w' = L.val) → K.RefC w' cb (coff + 259) es1 := fun w' hw' => by
      obtain ⟨L, rfl⟩ := hw'
      exact rc_later ⟨hes1, fun q hq => by rw [hbel.cell (p := ⟨cb, coff + 259 + q, none⟩) hcb]; exact hcell1 q hq⟩ L.ok
    have hR1 : ∀ L : Later W, K.Cr.ref L.val c1 es1 := fun L => K.Cr.ref_below (hbel.trans (L.ok.mono hbel.size)) hch1
    clear hcell0 hch0 hcell1 hch1 hcr
    by_cases h2 : vk = 2
    · subst h2
      rw [show gv full (.mk 4 s n [c0, c1]) (.mk 2 b vl) = false from by rw [gv_four _ _ _ _ _ (.inl rfl)]; simp]
      generalize hC : K.rcCells 4 s n (.slice (some ⟨cb, coff, none⟩) 2 cap) = C at hW ⊢
      clear hC hbel hcc hmax hva0
      try clear h4
      try clear hbe
      try clear hR0
      try clear hR1
      try clear hl
      try clear hcap
      try clear hcb
      try clear hf0
      try clear hc0
      try clear hf1
      try clear hc1
      try clear hv
      try clear hvl
      try clear hfk
      try clear hvmax
      try clear hmx
      try clear ih
      try clear h2
      try clear hb0
      try clear h3
      try clear hL
      try clear hln
      try clear hval
      try clear hfz
      go_enter Tryd.func60, Tryd.ntmps60
      go_upto_region 1 with (first
        | (refine Go.Great.wpList_boxTo rfl _ _ rfl _ rfl w.heap.size rfl C.toArray rfl ?_)
        | fail)
      rw [← hW]
      clear hW
      go_wp2_with fail
      refine wp_region_later (W0 := W) (Below.refl _ _) (by kernel_rfl) (by as_aux_lemma => kernel_rfl) ?_
      repeat (first
        | go_big_quiet_skip
        | go_big_quiet_step (fail))
      refine wpQuiet_nil ?_
      intro w' hw'
      obtain ⟨L', rfl⟩ := hw'
      go_wp2_with fail
      go_ret
      exact ⟨rfl, HBel.out.trans (L'.ok.mono HBel.out.size)⟩
    · have n2 : (vk != 2) = true := by simp [h2]
      by_cases hb0 : b = 0
      · have hbe : vk = 2 ∨ b = 0 := .inr hb0
        have nb : ((b : Int) != 0) = false := by simp [hb0]
        by_cases h3 : vk = 4
        · subst h3
          by_cases hL : ln = 1
          · subst hL
            obtain ⟨vb, voff, rfl, hvcap, hvbw, hvn⟩ := hvl.resolve_left (by decide)
            have hcntv : full = true → counts vl ≤ 70368744177664 := fun hfu => by have hv' := hv hfu; rw [count_mk] at hv'; omega
            obtain ⟨ds0, hvc0, hvch0⟩ := vals_get w vb vl voff hvn 0 (by omega)
            have hV0 : ∀ w', (∃ L : Later W, w' = L.val) → Val3 w' vb (voff + 0) ds0 := fun w' hw' => by
              obtain ⟨L, rfl⟩ := hw'
              exact (hvc0.below hvbw hbel).below (Nat.lt_of_lt_of_le hvbw hbel.size) L.ok
            have hX0 : full = true → vl[0].count ≤ 70368744177664 := fun hfu => Nat.le_trans (counts_mem (List.getElem_mem _)) (hcntv hfu)
            have hY0 : ∀ L : Later W, Vl.at L.val vl[0] ds0 := fun L => Vl.at_below (hbel.trans (L.ok.mono hbel.size)) (Nat.le_refl _) _ _ hvch0
            have hcall0 := fun L : Later W => ih c0 vl[0] es0 ds0 full L.val hc0 hf0 hX0 (hR0 L) (hY0 L)
            rw [show gv full (.mk 4 s n [c0, c1]) (.mk 4 b vl) = gv full c0 vl[0] from by rw [gv_four _ _ _ _ _ hbe, decide_eq_true hln, getD_at _ _ (by omega)]; simp]
            generalize gv full c0 vl[0] = r at hcall0 ⊢
            generalize hC : K.rcCells 4 s n (.slice (some ⟨cb, coff, none⟩) 2 cap) = C at hW ⊢
            clear hC hbel hcc hmax hva0
            try clear h4
            try clear hbe
            try clear hR0
            try clear hR1
            try clear hl
            try clear hcap
            try clear hcb
            try clear hf0
            try clear hc0
            try clear hf1
            try clear hc1
            try clear hv
            try clear hvl
            try clear hfk
            try clear hvmax
            try clear hmx
            try clear ih
            try clear h2
            try clear hb0
            try clear h3
            try clear hL
            try clear hln
            try clear hval
            try clear hfz
            try clear hvcap
            try clear hvbw
            try clear hvn
            try clear hcntv
            try clear hvc0
            try clear hvc1
            try clear hvch0
            try clear hvch1
            try clear hX0
            try clear hX1
            try clear hY0
            try clear hY1
            go_enter Tryd.func60, Tryd.ntmps60
            go_upto_region 1 with (first
              | (refine Go.Great.wpList_boxTo rfl _ _ rfl _ rfl w.heap.size rfl C.toArray rfl ?_)
              | fail)
            rw [← hW]
            clear hW
            go_wp2_with fail
            refine wp_region_later (W0 := W) (Below.refl _ _) (by kernel_rfl) (by as_aux_lemma => kernel_rfl) ?_
            repeat (first
              | go_big_quiet_skip
              | (go_big_quiet_want; refine quiet_load_rc _ rfl cb (coff + 0) es0 rfl hE0 ?_; go_big_quiet_on; simp only [Act.put, List.setIfInBounds_toArray, List.set_cons_zero, List.set_cons_succ])
              | (go_big_quiet_want; refine quiet_load_refval _ rfl vb (voff + 0) ds0 rfl hV0 ?_; go_big_quiet_on; simp only [Act.put, List.setIfInBounds_toArray, List.set_cons_zero, List.set_cons_succ])
              | go_big_quiet_step (fail))
            go_big_quiet_step (exact Later.calls (hcall0 _))
            repeat (first
              | go_big_quiet_skip
              | (go_big_quiet_want; refine quiet_load_rc _ rfl cb (coff + 0) es0 rfl hE0 ?_; go_big_quiet_on; simp only [Act.put, List.setIfInBounds_toArray, List.set_cons_zero, List.set_cons_succ])
              | (go_big_quiet_want; refine quiet_load_refval _ rfl vb (voff + 0) ds0 rfl hV0 ?_; go_big_quiet_on; simp only [Act.put, List.setIfInBounds_toArray, List.set_cons_zero, List.set_cons_succ])
              | go_big_quiet_step (fail))
            refine wpQuiet_nil ?_
            intro w' hw'
            obtain ⟨L', rfl⟩ := hw'
            go_wp2_with fail
            go_ret
            exact ⟨rfl, HBel.out.trans (L'.ok.mono HBel.out.size)⟩
          ·
            have eL : ((ln : Int) == 1) = false := by simp; omega
            rw [show gv full (.mk 4 s n [c0, c1]) (.mk 4 b vl) = false from by rw [gv_four _ _ _ _ _ hbe, hln, decide_eq_false hL]; rfl]
            generalize hC : K.rcCells 4 s n (.slice (some ⟨cb, coff, none⟩) 2 cap) = C at hW ⊢
            clear hC hbel hcc hmax hva0
            try clear h4
            try clear hbe
            try clear hR0
            try clear hR1
            try clear hl
            try clear hcap
            try clear hcb
            try clear hf0
            try clear hc0
            try clear hf1
            try clear hc1
            try clear hv
            try clear hvl
            try clear hfk
            try clear hvmax
            try clear hmx
            try clear ih
            try clear h2
            try clear hb0
            try clear h3
            try clear hL
            try clear hln
            try clear hval
            try clear hfz
            go_enter Tryd.func60, Tryd.ntmps60
            go_upto_region 1 with (first
              | (refine Go.Great.wpList_boxTo rfl _ _ rfl _ rfl w.heap.size rfl C.toArray rfl ?_)
              | fail)
            rw [← hW]
            clear hW
            go_wp2_with fail
            refine wp_region_later (W0 := W) (Below.refl _ _) (by kernel_rfl) (by as_aux_lemma => kernel_rfl) ?_
            repeat (first
              | go_big_quiet_skip
              | go_big_quiet_step (fail))
            refine wpQuiet_nil ?_
            intro w' hw'
            obtain ⟨L', rfl⟩ := hw'
            go_wp2_with fail
            go_ret
            exact ⟨rfl, HBel.out.trans (L'.ok.mono HBel.out.size)⟩
        by_cases h4 : vk = 5
        · subst h4
          by_cases hL : ln = 1
          · subst hL
            obtain ⟨vb, voff, rfl, hvcap, hvbw, hvn⟩ := hvl.resolve_left (by decide)
            have hcntv : full = true → counts vl ≤ 70368744177664 := fun hfu => by have hv' := hv hfu; rw [count_mk] at hv'; omega
            obtain ⟨ds0, hvc0, hvch0⟩ := vals_get w vb vl voff hvn 0 (by omega)
            have hV0 : ∀ w', (∃ L : Later W, w' = L.val) → Val3 w' vb (voff + 0) ds0 := fun w' hw' => by
              obtain ⟨L, rfl⟩ := hw'
              exact (hvc0.below hvbw hbel).below (Nat.lt_of_lt_of_le hvbw hbel.size) L.ok
            have hX0 : full = true → vl[0].count ≤ 70368744177664 := fun hfu => Nat.le_trans (counts_mem (List.getElem_mem _)) (hcntv hfu)
            have hY0 : ∀ L : Later W, Vl.at L.val vl[0] ds0 := fun L => Vl.at_below (hbel.trans (L.ok.mono hbel.size)) (Nat.le_refl _) _ _ hvch0
            have hcall1 := fun L : Later W => ih c1 vl[0] es1 ds0 full L.val hc1 hf1 hX0 (hR1 L) (hY0 L)
            rw [show gv full (.mk 4 s n [c0, c1]) (.mk 5 b vl) = gv full c1 vl[0] from by rw [gv_four _ _ _ _ _ hbe, decide_eq_true hln, getD_at _ _ (by omega)]; simp]
            generalize gv full c1 vl[0] = r at hcall1 ⊢
            generalize hC : K.rcCells 4 s n (.slice (some ⟨cb, coff, none⟩) 2 cap) = C at hW ⊢
            clear hC hbel hcc hmax hva0
            try clear h4
            try clear hbe
            try clear hR0
            try clear hR1
            try clear hl
            try clear hcap
            try clear hcb
            try clear hf0
            try clear hc0
            try clear hf1
            try clear hc1
            try clear hv
            try clear hvl
            try clear hfk
            try clear hvmax
            try clear hmx
            try clear ih
            try clear h2
            try clear hb0
            try clear h3
            try clear hL
            try clear hln
            try clear hval
            try clear hfz
            try clear hvcap
            try clear hvbw
            try clear hvn
            try clear hcntv
            try clear hvc0
            try clear hvc1
            try clear hvch0
            try clear hvch1
            try clear hX0
            try clear hX1
            try clear hY0
            try clear hY1
            go_enter Tryd.func60, Tryd.ntmps60
            go_upto_region 1 with (first
              | (refine Go.Great.wpList_boxTo rfl _ _ rfl _ rfl w.heap.size rfl C.toArray rfl ?_)
              | fail)
            rw [← hW]
            clear hW
            go_wp2_with fail
            refine wp_region_later (W0 := W) (Below.refl _ _) (by kernel_rfl) (by as_aux_lemma => kernel_rfl) ?_
            repeat (first
              | go_big_quiet_skip
              | (go_big_quiet_want; refine quiet_load_rc _ rfl cb (coff + 259) es1 rfl hE1 ?_; go_big_quiet_on; simp only [Act.put, List.setIfInBounds_toArray, List.set_cons_zero, List.set_cons_succ])
              | (go_big_quiet_want; refine quiet_load_refval _ rfl vb (voff + 0) ds0 rfl hV0 ?_; go_big_quiet_on; simp only [Act.put, List.setIfInBounds_toArray, List.set_cons_zero, List.set_cons_succ])
              | go_big_quiet_step (fail))
            go_big_quiet_step (exact Later.calls (hcall1 _))
            repeat (first
              | go_big_quiet_skip
              | (go_big_quiet_want; refine quiet_load_rc _ rfl cb (coff + 259) es1 rfl hE1 ?_; go_big_quiet_on; simp only [Act.put, List.setIfInBounds_toArray, List.set_cons_zero, List.set_cons_succ])
              | (go_big_quiet_want; refine quiet_load_refval _ rfl vb (voff + 0) ds0 rfl hV0 ?_; go_big_quiet_on; simp only [Act.put, List.setIfInBounds_toArray, List.set_cons_zero, List.set_cons_succ])
              | go_big_quiet_step (fail))
            refine wpQuiet_nil ?_
            intro w' hw'
            obtain ⟨L', rfl⟩ := hw'
            go_wp2_with fail
            go_ret
            exact ⟨rfl, HBel.out.trans (L'.ok.mono HBel.out.size)⟩
          ·
            have eL : ((ln : Int) == 1) = false := by simp; omega
            rw [show gv full (.mk 4 s n [c0, c1]) (.mk 5 b vl) = false from by rw [gv_four _ _ _ _ _ hbe, hln, decide_eq_false hL]; rfl]
            generalize hC : K.rcCells 4 s n (.slice (some ⟨cb, coff, none⟩) 2 cap) = C at hW ⊢
            clear hC hbel hcc hmax hva0
            try clear h4
            try clear hbe
            try clear hR0
            try clear hR1
            try clear hl
            try clear hcap
            try clear hcb
            try clear hf0
            try clear hc0
            try clear hf1
            try clear hc1
            try clear hv
            try clear hvl
            try clear hfk
            try clear hvmax
            try clear hmx
            try clear ih
            try clear h2
            try clear hb0
            try clear h3
            try clear hL
            try clear hln
            try clear hval
            try clear hfz
            go_enter Tryd.func60, Tryd.ntmps60
            go_upto_region 1 with (first
              | (refine Go.Great.wpList_boxTo rfl _ _ rfl _ rfl w.heap.size rfl C.toArray rfl ?_)
              | fail)
            rw [← hW]
            clear hW
            go_wp2_with fail
            refine wp_region_later (W0 := W) (Below.refl _ _) (by kernel_rfl) (by as_aux_lemma => kernel_rfl) ?_
            repeat (first
              | go_big_quiet_skip
              | go_big_quiet_step (fail))
            refine wpQuiet_nil ?_
            intro w' hw'
            obtain ⟨L', rfl⟩ := hw'
            go_wp2_with fail
            go_ret
            exact ⟨rfl, HBel.out.trans (L'.ok.mono HBel.out.size)⟩
        ·
          have e3 : (vk == 4) = false := by simp [h3]
          have e4 : (vk == 5) = false := by simp [h4]
          rw [show gv full (.mk 4 s n [c0, c1]) (.mk vk b vl) = false from by rw [gv_four _ _ _ _ _ hbe, e3, e4]; simp]
          generalize hC : K.rcCells 4 s n (.slice (some ⟨cb, coff, none⟩) 2 cap) = C at hW ⊢
          clear hC hbel hcc hmax hva0
          try clear h4
          try clear hbe
          try clear hR0
          try clear hR1
          try clear hl
          try clear hcap
          try clear hcb
          try clear hf0
          try clear hc0
          try clear hf1
          try clear hc1
          try clear hv
          try clear hvl
          try clear hfk
          try clear hvmax
          try clear hmx
          try clear ih
          try clear h2
          try clear hb0
          try clear h3
          try clear hL
          try clear hln
          try clear hval
          try clear hfz
          go_enter Tryd.func60, Tryd.ntmps60
          go_upto_region 1 with (first
            | (refine Go.Great.wpList_boxTo rfl _ _ rfl _ rfl w.heap.size rfl C.toArray rfl ?_)
            | fail)
          rw [← hW]
          clear hW
          go_wp2_with fail
          refine wp_region_later (W0 := W) (Below.refl _ _) (by kernel_rfl) (by as_aux_lemma => kernel_rfl) ?_
          repeat (first
            | go_big_quiet_skip
            | go_big_quiet_step (fail))
          refine wpQuiet_nil ?_
          intro w' hw'
          obtain ⟨L', rfl⟩ := hw'
          go_wp2_with fail
          go_ret
          exact ⟨rfl, HBel.out.trans (L'.ok.mono HBel.out.size)⟩
      · have nb : ((b : Int) != 0) = true := by simp; omega
        rw [gv_byte (by decide) full s n _ h2 hb0]
        generalize hC : K.rcCells 4 s n (.slice (some ⟨cb, coff, none⟩) 2 cap) = C at hW ⊢
        clear hC hbel hcc hmax hva0
        try clear h4
        try clear hbe
        try clear hR0
        try clear hR1
        try clear hl
        try clear hcap
        try clear hcb
        try clear hf0
        try clear hc0
        try clear hf1
        try clear hc1
        try clear hv
        try clear hvl
        try clear hfk
        try clear hvmax
        try clear hmx
        try clear ih
        try clear h2
        try clear hb0
        try clear h3
        try clear hL
        try clear hln
        try clear hval
        try clear hfz
        go_enter Tryd.func60, Tryd.ntmps60
        go_upto_region 1 with (first
          | (refine Go.Great.wpList_boxTo rfl _ _ rfl _ rfl w.heap.size rfl C.toArray rfl ?_)
          | fail)
        rw [← hW]
        clear hW
        go_wp2_with fail
        go_ret
        exact ⟨rfl, HBel.out⟩
end V
end Go.Proofs.YtonhmjfopidacaaDoor
namespace Go.Proofs.YtonhmjfopidacaaDoor
namespace V
set_option maxRecDepth 100000
open Go.RowKit
theorem wp_load_rc {o : Oper} {a : Act} {w : World} {J : Act → World → Prop} {Q : Exit → Act → World → Prop} (x : Operand) (ho : o.op = .load 57 x) (b off : Nat) (cs : List Value) (hx : a.eval x = .pointer (some ⟨b, off, none⟩)) (hc : K.RefC w b off cs)
    (h : J (a.put o.dst (.agg cs.toArray)) w) : o.wp Tryd.prog a w J Q := by
  unfold Oper.wp execOp
  simp only [ho, hx, Instr.loadAt, Instr.sureAddr, Sem.run_bind, Sem.run_pure, Result.andThen_ok, K.loadRefCore hc]
  exact h
theorem wp_load_rv {o : Oper} {a : Act} {w : World} {J : Act → World → Prop} {Q : Exit → Act → World → Prop} (x : Operand) (ho : o.op = .load 61 x) (b off : Nat) (cs : List Value) (hx : a.eval x = .pointer (some ⟨b, off, none⟩)) (hc : Val3 w b off cs)
    (h : J (a.put o.dst (.agg cs.toArray)) w) : o.wp Tryd.prog a w J Q := by
  unfold Oper.wp execOp
  simp only [ho, hx, Instr.loadAt, Instr.sureAddr, Sem.run_bind, Sem.run_pure, Result.andThen_ok, loadRefVal hc]
  exact h
/-- a slice of so many elements -/
def isRow (n : Nat) : Fact := fun v _ => ∃ (p : Option Addr) (c : Nat), v = .slice p n c
theorem isRow.stable (n : Nat) : Stable (isRow n) := fun _ _ _ h _ => h
theorem all_take_succ (P : Vl → Bool) (l : List Vl) (j : Nat) (hj : j < l.length) : (l.take (j + 1)).all P = ((l.take j).all P && P l[j]) := by
  rw [List.take_succ_eq_append_getElem hj, List.all_append]; simp
theorem all_part (P : Vl → Bool) (l : List Vl) (j : Nat) (hj : j < l.length) (h : P l[j] = false) : l.all P = false := by
  rw [List.all_eq_false]
  exact ⟨l[j], List.getElem_mem hj, by simp [h]⟩
def gv20 (_B0 : Nat) (wz cb coff cap vb voff ln vcap j nf : Nat) (es0 ds0 : List Value) (z : Bool) : List Fact := [
  isEq (.pointer (some ⟨wz, 258, none⟩)),
  isEq (.slice (some ⟨cb, coff, none⟩) 1 cap),
  isEq (.pointer (some ⟨cb, coff, none⟩)),
  isEq (.agg es0.toArray),
  isEq (.pointer (some ⟨wz + 1, 2, none⟩)),
  isEq (.slice (some ⟨vb, voff, none⟩) ln vcap),
  isEq (.int .i64 (j : Int)),
  isEq (.pointer (some ⟨vb, voff + j * 3, none⟩)),
  isEq (.agg ds0.toArray),
  isEq (.bool true),
  isEq (.bool true),
  isEq (.bool false),
  isEq (.bool false),
  isEq (.bool true),
  isEq (.bool true),
  isEq (.pointer (some ⟨wz + 1, 2, none⟩)),
  isEq (.slice (some ⟨vb, voff, none⟩) ln vcap),
  isEq (.int .i64 (j : Int)),
  isEq (.pointer (some ⟨vb, voff + j * 3, none⟩)),
  isEq (.agg ds0.toArray),
  isRow nf,
  isEq (.int .i64 (nf : Int)),
  isEq (.bool z),
  isEq (.bool z),
  isEq (.bool z)]
theorem gv20_stable (B0 : Nat) (wz cb coff cap vb voff ln vcap j nf : Nat) (es0 ds0 : List Value) (z : Bool) : AllG (fun _ P => Stable P) 0 (gv20 B0 wz cb coff cap vb voff ln vcap j nf es0 ds0 z) := by
  unfold gv20
  refine AllG.cons (k' := 1) rfl (isEq.stable _) ?_
  refine AllG.cons (k' := 2) rfl (isEq.stable _) ?_
  refine AllG.cons (k' := 3) rfl (isEq.stable _) ?_
  refine AllG.cons (k' := 4) rfl (isEq.stable _) ?_
  refine AllG.cons (k' := 5) rfl (isEq.stable _) ?_
  refine AllG.cons (k' := 6) rfl (isEq.stable _) ?_
  refine AllG.cons (k' := 7) rfl (isEq.stable _) ?_
  refine AllG.cons (k' := 8) rfl (isEq.stable _) ?_
  refine AllG.cons (k' := 9) rfl (isEq.stable _) ?_
  refine AllG.cons (k' := 10) rfl (isEq.stable _) ?_
  refine AllG.cons (k' := 11) rfl (isEq.stable _) ?_
  refine AllG.cons (k' := 12) rfl (isEq.stable _) ?_
  refine AllG.cons (k' := 13) rfl (isEq.stable _) ?_
  refine AllG.cons (k' := 14) rfl (isEq.stable _) ?_
  refine AllG.cons (k' := 15) rfl (isEq.stable _) ?_
  refine AllG.cons (k' := 16) rfl (isEq.stable _) ?_
  refine AllG.cons (k' := 17) rfl (isEq.stable _) ?_
  refine AllG.cons (k' := 18) rfl (isEq.stable _) ?_
  refine AllG.cons (k' := 19) rfl (isEq.stable _) ?_
  refine AllG.cons (k' := 20) rfl (isEq.stable _) ?_
  refine AllG.cons (k' := 21) rfl (isRow.stable _) ?_
  refine AllG.cons (k' := 22) rfl (isEq.stable _) ?_
  refine AllG.cons (k' := 23) rfl (isEq.stable _) ?_
  refine AllG.cons (k' := 24) rfl (isEq.stable _) ?_
  refine AllG.cons (k' := 25) rfl (isEq.stable _) ?_
  exact AllG.nil
set_option maxHeartbeats 16000000 in
theorem gvk_5 {m : Nat} (ih : GoodIH m) (s : BitVec 256) (n : Int) (c0 : K.Cr) (hc0 : c0.count ≤ m) (hf0 : c0.form = true) (vk : Int) (b : Nat) (vl : List Vl) (ln : Nat) (hln : vl.length = ln) (cs ds : List Value) (full : Bool) (w : World) (hv : full = true → (Vl.mk vk b vl).count ≤ 70368744177664)
    (hat : K.Cr.ref w (.mk 5 s n [c0]) cs) (hva : Vl.at w (.mk vk b vl) ds) :
    Calls Tryd.prog 60 #[.agg cs.toArray, .agg ds.toArray, .bool full] w fun e w' => e = .returned (.bool (gv full (.mk 5 s n [c0]) (.mk vk b vl))) ∧ Below w.heap.size w w' := by
    have hva0 := hva
    rw [K.refc_mk] at hat
    obtain ⟨_, _, a, cap, rfl, hmax, hl⟩ := hat
    rw [at_mk, hln] at hva
    obtain ⟨hfk, hfz, va, vcap, rfl, hvmax, hvl⟩ := hva
    have hmx : (ln : Int) ≤ 9223372036854775807 := by unfold maxLen at hvmax; omega
    simp only [List.length_cons, List.length_nil, Nat.zero_add] at hl hmax ⊢
    obtain ⟨W, hW⟩ : ∃ W, W = (w.alloc (.cells (K.rcCells 5 s n (.slice a 1 cap)).toArray 57)).alloc (.cells #[.int .i64 vk, .int .u8 b, .slice va ln vcap] 61) := ⟨_, rfl⟩
    have hbel : Below w.heap.size w W := by rw [hW]; exact ((Below.refl _ _).alloc (Nat.le_refl _) _).alloc (by simp) _
    have hcc : K.CCells W w.heap.size 5 s n (.slice a 1 cap) := by rw [hW]; exact (K.ccells_box (World.alloc_heap_new w _)).later (K.alloc_below _ _)
    have hvb : RBox W (w.heap.size + 1) #[.int .i64 vk, .int .u8 b, .slice va ln vcap] := by
      rw [hW]
      have h := rbox_start (w.alloc (.cells (K.rcCells 5 s n (.slice a 1 cap)).toArray 57)) #[.int .i64 vk, .int .u8 b, .slice va ln vcap]
      rw [World.size_alloc] at h
      exact h
    have p0 : W.cell? ⟨w.heap.size, 0, none⟩ = some (.int .i64 5) := hcc.c0
    have p258 : W.cell? ⟨w.heap.size, 258, none⟩ = some (.slice a 1 cap) := hcc.c258
    have c258 := fun L : Later W => (hcc.later L.ok).c258
    have q0 : W.cell? ⟨w.heap.size + 1, 0, none⟩ = some (.int .i64 vk) := by rw [cells_at hvb]; rfl
    have q1 : W.cell? ⟨w.heap.size + 1, 1, none⟩ = some (.int .u8 b) := by rw [cells_at hvb]; rfl
    have q2 : W.cell? ⟨w.heap.size + 1, 2, none⟩ = some (.slice va ln vcap) := by rw [cells_at hvb]; rfl
    have hlw : w.heap.size + 1 < W.heap.size := hvb.lt
    have lq0 := fun L : Later W => (L.cell ⟨w.heap.size + 1, 0, none⟩ hlw).trans q0
    have lq2 := fun L : Later W => (L.cell ⟨w.heap.size + 1, 2, none⟩ hlw).trans q2
    have hvbx : ∀ w', (∃ L : Later W, w' = L.val) → Val3 w' (w.heap.size + 1) 0 [.int .i64 vk, .int .u8 b, .slice va ln vcap] := fun w' hw' => by
      obtain ⟨L, rfl⟩ := hw'
      exact (rval3_in hvb rfl).below hlw L.ok
    have hne := Later.nonempty W
    have HBel := Lib.hid hbel
    have HCC := Lib.hid hcc
    obtain ⟨cb, coff, rfl, hcap, hcb, hcr⟩ := hl.resolve_left (by decide)
    obtain ⟨es0, hes0, hcell0, hch0⟩ := K.coresRef_get w cb [c0] coff hcr 0 (by simp)
    have hE0 : ∀ w', (∃ L : Later W, w' = L.val) → K.RefC w' cb (coff + 0) es0 := fun w' hw' => by
      obtain ⟨L, rfl⟩ := hw'
      exact rc_later ⟨hes0, fun q hq => by rw [hbel.cell (p := ⟨cb, coff + 0 + q, none⟩) hcb]; exact hcell0 q hq⟩ L.ok
    have hR0 : ∀ L : Later W, K.Cr.ref L.val c0 es0 := fun L => K.Cr.ref_below (hbel.trans (L.ok.mono hbel.size)) hch0
    clear hcr
    by_cases h2 : vk = 2
    · subst h2
      rw [show gv full (.mk 5 s n [c0]) (.mk 2 b vl) = false from by rw [gv_five _ _ _ _ (.inl rfl)]; rfl]
      generalize hC : K.rcCells 5 s n (.slice (some ⟨cb, coff, none⟩) 1 cap) = C at hW ⊢
      clear hC hbel hcc hmax hva0
      try clear h4
      try clear hbe
      try clear hR0
      try clear hR1
      try clear hl
      try clear hcap
      try clear hcb
      try clear hf0
      try clear hc0
      try clear hf1
      try clear hc1
      try clear hv
      try clear hvl
      try clear hfk
      try clear hvmax
      try clear hmx
      try clear ih
      try clear h2
      try clear hb0
      try clear h3
      try clear hL
      try clear hln
      try clear hval
      try clear hfz
      go_enter Tryd.func60, Tryd.ntmps60
      go_upto_region 1 with (first
        | (refine Go.Great.wpList_boxTo rfl _ _ rfl _ rfl w.heap.size rfl C.toArray rfl ?_)
        | fail)
      rw [← hW]
      clear hW
      go_wp2_with fail
      go_ret
      exact ⟨rfl, HBel.out⟩
    · have n2 : (vk != 2) = true := by simp [h2]
      by_cases hb0 : b = 0
      · have hbe : vk = 2 ∨ b = 0 := .inr hb0
        have nb : ((b : Int) != 0) = false := by simp [hb0]
        by_cases h3 : vk = 6
        · subst h3
          have hcntv : full = true → counts vl ≤ 70368744177664 := fun hfu => by have hv' := hv hfu; rw [count_mk] at hv'; omega
          obtain ⟨P, hP⟩ : ∃ P : Vl → Bool, P = fun x => gv full c0 x && (!full || decide (0 < x.flat.length)) := ⟨_, rfl⟩
          rw [show gv full (.mk 5 s n [c0]) (.mk 6 b vl) = vl.all P from by rw [gv_five _ _ _ _ hbe, hP]; rfl]
          obtain ⟨R, hR⟩ : ∃ R, R = vl.all P := ⟨_, rfl⟩
          rw [← hR]
          have HP := Lib.hid hP
          have HR := Lib.hid hR
          have Hln := Lib.hid hln
          have Hvl := Lib.hid hvl
          have Hcntv := Lib.hid hcntv
          have HE0 := Lib.hid (show K.RefC W cb coff es0 from ⟨hes0, fun q hq => by rw [hbel.cell (p := ⟨cb, coff + q, none⟩) hcb]; have h := hcell0 q hq; rw [Nat.zero_mul, Nat.add_zero] at h; exact h⟩)
          have HRf := Lib.hid (fun (w' : World) (h : Below w.heap.size w w') => K.Cr.ref_below h hch0)
          have Hih := Lib.hid ih
          have Hc0 := Lib.hid (And.intro hc0 hf0)
          have Hvbox := Lib.hid hvb
          have Hfl := Lib.hid (show full = true → ∀ (j : Nat) (h : j < vl.length), vl[j].flat.length ≤ 70368744177664 ∧ vl[j].count ≤ 70368744177664 from fun hfu j h => by
            have h3 := hcntv hfu
            have h1 := flat_le vl[j]
            have h2 := counts_mem (List.getElem_mem h)
            omega)
          generalize hC : K.rcCells 5 s n (.slice (some ⟨cb, coff, none⟩) 1 cap) = C at hW ⊢
          clear hC hbel hcc hmax hva0
          try clear h4
          try clear hbe
          try clear hR0
          try clear hR1
          try clear hl
          try clear hcap
          try clear hcb
          try clear hf0
          try clear hc0
          try clear hf1
          try clear hc1
          try clear hv
          try clear hvl
          try clear hfk
          try clear hvmax
          try clear ih
          try clear h2
          try clear hb0
          try clear h3
          try clear hL
          try clear hln
          try clear hval
          try clear hfz
          try clear hP
          try clear hR
          try clear hvbx
          try clear lq0
          try clear lq2
          try clear c258
          try clear hE0
          try clear hR0
          try clear hcell0
          try clear hch0
          try clear hes0
          go_enter Tryd.func60, Tryd.ntmps60
          go_upto_region 1 with (first
            | (refine Go.Great.wpList_boxTo rfl _ _ rfl _ rfl w.heap.size rfl C.toArray rfl ?_)
            | fail)
          rw [← hW]
          clear hW
          go_wp2_with fail
          go_loopw [7] (fun i wr => ∃ j : Nat, i = .int .i64 j ∧ j ≤ ln ∧ Hid ((vl.take j).all P = true) ∧ Hid (Below W.heap.size W wr)) (fun i _ => ln - (intOf i).toNat)
          case atStart => exact ⟨0, rfl, Nat.zero_le _, Lib.hid (by simp), Lib.hid (Below.refl _ _)⟩
          case round =>
            obtain ⟨j, rfl, hj, hall, hB⟩ := hrel
            have cr2 : wr.cell? ⟨w.heap.size + 1, 2, none⟩ = some (.slice va ln vcap) := (hB.out.cell (p := ⟨w.heap.size + 1, 2, none⟩) hlw).trans q2
            by_cases hjl : j < ln
            · have hdj : decide ((j : Int) < ln) = true := by simp; omega
              have hjv : j < vl.length := by have := Hln.out; omega
              have Hjl := Lib.hid hjl
              obtain ⟨vb, voff, rfl, hvcap, hvbw, hvn⟩ := Hvl.out.resolve_left (by omega)
              obtain ⟨ds0, hvc, hvch⟩ := vals_get w vb vl voff hvn j hjv
              have hBw : Below w.heap.size w wr := HBel.out.trans (hB.out.mono HBel.out.size)
              have HBw := Lib.hid hBw
              have HV := Lib.hid (fun (w' : World) (h : Below wr.heap.size wr w') => (hvc.below hvbw hBw).below (Nat.lt_of_lt_of_le hvbw hBw.size) h)
              have HE := Lib.hid (fun (w' : World) (h : Below wr.heap.size wr w') => rc_later (rc_later HE0.out hB.out) h)
              have HC := Lib.hid (fun (w' : World) (h : Below wr.heap.size wr w') => ((HCC.out.later hB.out).later h).c258)
              have HL := Lib.hid (fun (w' : World) (h : Below wr.heap.size wr w') => (h.cell (p := ⟨w.heap.size + 1, 2, none⟩) (Nat.lt_of_lt_of_le hlw hB.out.size)).trans cr2)
              have hg := fun (w' : World) (h : Below wr.heap.size wr w') => Hih.out c0 vl[j] es0 ds0 full w' Hc0.out.1 Hc0.out.2 (fun hfu => (Hfl.out hfu j hjv).2) (HRf.out w' (hBw.trans (h.mono hBw.size))) (Vl.at_below (hBw.trans (h.mono hBw.size)) (Nat.le_refl _) _ _ hvch)
              have HF := Lib.hid (show full = true → ∀ w' : World, Below wr.heap.size wr w' → Calls Tryd.prog 76 #[.agg ds0.toArray] w' (fun e w'' => ∃ v5, e = .returned v5 ∧ isRow vl[j].flat.length v5 w'' ∧ Below w'.heap.size w' w'') from fun hfu w' h => (refFlat_any vl[j].count vl[j] ds0 w' (Nat.le_refl _) (Vl.at_below (hBw.trans (h.mono hBw.size)) (Nat.le_refl _) _ _ hvch) (Hfl.out hfu j hjv).1).mono (fun e w'' hp => by
                obtain ⟨v', ys, rfl, hys, ho, hb⟩ := hp
                obtain ⟨a', c', rfl⟩ := owns_form ho
                exact ⟨_, rfl, ⟨a', c', by rw [hys.out]⟩, hb⟩))
              have Hstep := Lib.hid (all_take_succ P vl j hjv)
              have Hpart := Lib.hid (all_part P vl j hjv)
              have HPj := Lib.hid (show P vl[j] = (gv full c0 vl[j] && (!full || decide (0 < vl[j].flat.length))) from by rw [HP.out])
              generalize vl[j].flat.length = nf at HF HPj
              generalize gv full c0 vl[j] = r at hg HPj
              generalize P vl[j] = pj at HPj Hstep Hpart
              obtain ⟨z, hz⟩ : ∃ z, z = ((nf : Int) == 0) := ⟨_, rfl⟩
              have HZ := Lib.hid hz.symm
              have l258 := fun L : Later wr => HC.out L.val L.ok
              have l2 := fun L : Later wr => HL.out L.val L.ok
              have hne2 := Later.nonempty wr
              clear hvc hvch hvn hvcap hz hBw
              cases r with
              | false =>
                have hcall := fun L : Later wr => hg L.val L.ok
                clear hg
                go_wp2_with fail
                refine wp_region_later (W0 := wr) (Below.refl _ _) (by kernel_rfl) (by as_aux_lemma => kernel_rfl) ?_
                repeat (first
                  | go_big_quiet_skip
                  | (go_big_quiet_want; refine quiet_load_rc _ rfl cb coff es0 rfl (fun w' hw' => by obtain ⟨L, rfl⟩ := hw'; exact HE.out L.val L.ok) ?_; go_big_quiet_on; simp only [Act.put, List.setIfInBounds_toArray, List.set_cons_zero, List.set_cons_succ])
                  | (go_big_quiet_want; refine quiet_load_refval _ rfl vb (voff + j * 3) ds0 rfl (fun w' hw' => by obtain ⟨L, rfl⟩ := hw'; exact HV.out L.val L.ok) ?_; go_big_quiet_on; simp only [Act.put, List.setIfInBounds_toArray, List.set_cons_zero, List.set_cons_succ])
                  | go_big_quiet_step (fail))
                go_big_quiet_step (exact Later.calls (hcall _))
                repeat (first
                  | go_big_quiet_skip
                  | (go_big_quiet_want; refine quiet_load_rc _ rfl cb coff es0 rfl (fun w' hw' => by obtain ⟨L, rfl⟩ := hw'; exact HE.out L.val L.ok) ?_; go_big_quiet_on; simp only [Act.put, List.setIfInBounds_toArray, List.set_cons_zero, List.set_cons_succ])
                  | (go_big_quiet_want; refine quiet_load_refval _ rfl vb (voff + j * 3) ds0 rfl (fun w' hw' => by obtain ⟨L, rfl⟩ := hw'; exact HV.out L.val L.ok) ?_; go_big_quiet_on; simp only [Act.put, List.setIfInBounds_toArray, List.set_cons_zero, List.set_cons_succ])
                  | go_big_quiet_step (fail))
                refine wpQuiet_nil ?_
                intro w' hw'
                obtain ⟨L', rfl⟩ := hw'
                have hRf : R = false := by rw [HR.out]; exact Hpart.out (by rw [HPj.out]; rfl)
                clear HR
                subst hRf
                go_wp2_with fail
                go_ret
                exact ⟨rfl, HBw.out.trans (L'.ok.mono HBw.out.size)⟩
              | true =>
                cases full with
                | false =>
                  have hcall := fun L : Later wr => hg L.val L.ok
                  clear hg
                  go_wp2_with fail
                  refine wp_region_later (W0 := wr) (Below.refl _ _) (by kernel_rfl) (by as_aux_lemma => kernel_rfl) ?_
                  repeat (first
                    | go_big_quiet_skip
                    | (go_big_quiet_want; refine quiet_load_rc _ rfl cb coff es0 rfl (fun w' hw' => by obtain ⟨L, rfl⟩ := hw'; exact HE.out L.val L.ok) ?_; go_big_quiet_on; simp only [Act.put, List.setIfInBounds_toArray, List.set_cons_zero, List.set_cons_succ])
                    | (go_big_quiet_want; refine quiet_load_refval _ rfl vb (voff + j * 3) ds0 rfl (fun w' hw' => by obtain ⟨L, rfl⟩ := hw'; exact HV.out L.val L.ok) ?_; go_big_quiet_on; simp only [Act.put, List.setIfInBounds_toArray, List.set_cons_zero, List.set_cons_succ])
                    | go_big_quiet_step (fail))
                  go_big_quiet_step (exact Later.calls (hcall _))
                  repeat (first
                    | go_big_quiet_skip
                    | (go_big_quiet_want; refine quiet_load_rc _ rfl cb coff es0 rfl (fun w' hw' => by obtain ⟨L, rfl⟩ := hw'; exact HE.out L.val L.ok) ?_; go_big_quiet_on; simp only [Act.put, List.setIfInBounds_toArray, List.set_cons_zero, List.set_cons_succ])
                    | (go_big_quiet_want; refine quiet_load_refval _ rfl vb (voff + j * 3) ds0 rfl (fun w' hw' => by obtain ⟨L, rfl⟩ := hw'; exact HV.out L.val L.ok) ?_; go_big_quiet_on; simp only [Act.put, List.setIfInBounds_toArray, List.set_cons_zero, List.set_cons_succ])
                    | go_big_quiet_step (fail))
                  refine wpQuiet_nil ?_
                  intro w' hw'
                  obtain ⟨L', rfl⟩ := hw'
                  go_wp2_with fail
                  go_roundw
                  case rel => exact ⟨j + 1, by go_num, Hjl.out, Lib.hid (by rw [Hstep.out, hall.out, HPj.out]; rfl), Lib.hid (hB.out.trans (L'.ok.mono hB.out.size))⟩
                  case measure => have := Hjl.out; simp [intOf]; omega
                | true =>
                  have HG := Lib.hid hg
                  clear hg l258 l2
                  go_upto_region 20 with fail
                  go_cut [159] from 135 to 159 (fun v wx => v = .bool z ∧ Below wr.heap.size wr wx)
                  case first =>
                   rename_i J K' hR hMet
                   refine wp_region_guards2 (factAt (gv20 wr.heap.size w.heap.size cb coff cap vb voff ln vcap j nf es0 ds0 z)) (W0 := wr) (by kernel_rfl) (by kernel_rfl) (by kernel_rfl) (Below.refl _ _) (fun i v w w' h hk => factAt_stable (gv20_stable _ _ _ _ _ _ _ _ _ _ _ _ _ _) i v w w' h hk) [(12, false), (14, true)] (by kernel_rfl) ?hgu ?hskip ?hop ?hend
                   case hgu =>
                     intro j hj v w h
                     simp only [List.mem_cons, List.not_mem_nil, or_false] at hj
                     rcases hj with rfl | rfl
                     · exact fact_get (P := isEq (.bool false)) rfl h
                     · exact fact_get (P := isEq (.bool true)) rfl h
                   case hskip =>
                     refine AllG.get0 ?_
                     refine AllG.cons (k' := 1) rfl (fun h => by have h' : true = false := h; cases h') ?_
                     refine AllG.cons (k' := 2) rfl (fun h => by have h' : true = false := h; cases h') ?_
                     refine AllG.cons (k' := 3) rfl (fun h => by have h' : true = false := h; cases h') ?_
                     refine AllG.cons (k' := 4) rfl (fun h => by have h' : true = false := h; cases h') ?_
                     refine AllG.cons (k' := 5) rfl (fun h => by have h' : true = false := h; cases h') ?_
                     refine AllG.cons (k' := 6) rfl (fun h => by have h' : true = false := h; cases h') ?_
                     refine AllG.cons (k' := 7) rfl (fun h => by have h' : true = false := h; cases h') ?_
                     refine AllG.cons (k' := 8) rfl (fun h => by have h' : true = false := h; cases h') ?_
                     refine AllG.cons (k' := 9) rfl (fun h => by have h' : true = false := h; cases h') ?_
                     refine AllG.cons (k' := 10) rfl (fun h => by have h' : true = false := h; cases h') ?_
                     refine AllG.cons (k' := 11) rfl (fun h => by have h' : true = false := h; cases h') ?_
                     refine AllG.cons (k' := 12) rfl (fun h => by have h' : true = false := h; cases h') ?_
                     refine AllG.cons (k' := 13) rfl (fun h => by have h' : true = false := h; cases h') ?_
                     refine AllG.cons (k' := 14) rfl (fun h => by have h' : true = false := h; cases h') ?_
                     refine AllG.cons (k' := 15) rfl (fun h => by have h' : true = false := h; cases h') ?_
                     refine AllG.cons (k' := 16) rfl (fun h => by have h' : true = false := h; cases h') ?_
                     refine AllG.cons (k' := 17) rfl (fun h => by have h' : true = false := h; cases h') ?_
                     refine AllG.cons (k' := 18) rfl (fun h => by have h' : true = false := h; cases h') ?_
                     refine AllG.cons (k' := 19) rfl (fun h => by have h' : true = false := h; cases h') ?_
                     refine AllG.cons (k' := 20) rfl (fun h => by have h' : true = false := h; cases h') ?_
                     refine AllG.cons (k' := 21) rfl (fun h => by have h' : true = false := h; cases h') ?_
                     refine AllG.cons (k' := 22) rfl (fun h => by have h' : true = false := h; cases h') ?_
                     refine AllG.cons (k' := 23) rfl (fun h => by have h' : true = false := h; cases h') ?_
                     refine AllG.cons (k' := 24) rfl (fun h => by have h' : true = false := h; cases h') ?_
                     refine AllG.cons (k' := 25) rfl (fun h => by have h' : true = false := h; cases h') ?_
                     exact AllG.nil
                   case hop =>
                     refine AllG.get0 ?_
                     refine AllG.cons (k' := 1) rfl ?_ ?_
                     · intro _
                       intro a' w' hB hk hin KK hK
                       have hkk : a'.tmps[3]? = some (.pointer (some ⟨w.heap.size, 0, none⟩)) := (hk 3 (by kernel_rfl)).trans rfl
                       have hev := eval_tmp hkk
                       unfold Oper.wp execOp
                       go_simp
                       exact hK _ _ hB (KeepsC.of_below (Below.refl _ _)) (fact_put (P := isEq (.pointer (some ⟨w.heap.size, 258, none⟩))) rfl rfl)
                     refine AllG.cons (k' := 2) rfl ?_ ?_
                     · intro _
                       intro a' w' hB hk hin KK hK
                       obtain ⟨v1, e1, q1⟩ := hin 0 _ 135 rfl rfl ⟨{ on := 0, ground := .data }, by simp, rfl, rfl⟩
                       have q1 := fact_get (P := isEq (.pointer (some ⟨w.heap.size, 258, none⟩))) rfl q1
                       have q1' : v1 = .pointer (some ⟨w.heap.size, 258, none⟩) := q1
                       subst q1'
                       have hcell := HC.out w' hB
                       unfold Oper.wp execOp
                       go_simp
                       exact hK _ _ hB (KeepsC.of_below (Below.refl _ _)) (fact_put (P := isEq (.slice (some ⟨cb, coff, none⟩) 1 cap)) rfl rfl)
                     refine AllG.cons (k' := 3) rfl ?_ ?_
                     · intro _
                       intro a' w' hB hk hin KK hK
                       obtain ⟨v2, e2, q2⟩ := hin 1 _ 136 rfl rfl ⟨{ on := 1, ground := .data }, by simp, rfl, rfl⟩
                       have q2 := fact_get (P := isEq (.slice (some ⟨cb, coff, none⟩) 1 cap)) rfl q2
                       have q2' : v2 = .slice (some ⟨cb, coff, none⟩) 1 cap := q2
                       subst q2'
                       unfold Oper.wp execOp
                       go_simp
                       exact hK _ _ hB (KeepsC.of_below (Below.refl _ _)) (fact_put (P := isEq (.pointer (some ⟨cb, coff, none⟩))) rfl rfl)
                     refine AllG.cons (k' := 4) rfl ?_ ?_
                     · intro _
                       intro a' w' hB hk hin KK hK
                       obtain ⟨v3, e3, q3⟩ := hin 2 _ 137 rfl rfl ⟨{ on := 2, ground := .data }, by simp, rfl, rfl⟩
                       have q3 := fact_get (P := isEq (.pointer (some ⟨cb, coff, none⟩))) rfl q3
                       have q3' : v3 = .pointer (some ⟨cb, coff, none⟩) := q3
                       subst q3'
                       refine wp_load_rc _ rfl cb coff es0 (eval_tmp e3) (HE.out w' hB) ?_
                       exact hK _ _ hB (KeepsC.of_below (Below.refl _ _)) (fact_put (P := isEq (.agg es0.toArray)) rfl rfl)
                     refine AllG.cons (k' := 5) rfl ?_ ?_
                     · intro _
                       intro a' w' hB hk hin KK hK
                       have hkk : a'.tmps[4]? = some (.pointer (some ⟨w.heap.size + 1, 0, none⟩)) := (hk 4 (by kernel_rfl)).trans rfl
                       have hev := eval_tmp hkk
                       unfold Oper.wp execOp
                       go_simp
                       exact hK _ _ hB (KeepsC.of_below (Below.refl _ _)) (fact_put (P := isEq (.pointer (some ⟨w.heap.size + 1, 2, none⟩))) rfl rfl)
                     refine AllG.cons (k' := 6) rfl ?_ ?_
                     · intro _
                       intro a' w' hB hk hin KK hK
                       obtain ⟨v4, e4, q4⟩ := hin 4 _ 139 rfl rfl ⟨{ on := 4, ground := .data }, by simp, rfl, rfl⟩
                       have q4 := fact_get (P := isEq (.pointer (some ⟨w.heap.size + 1, 2, none⟩))) rfl q4
                       have q4' : v4 = .pointer (some ⟨w.heap.size + 1, 2, none⟩) := q4
                       subst q4'
                       have hcell := HL.out w' hB
                       unfold Oper.wp execOp
                       go_simp
                       exact hK _ _ hB (KeepsC.of_below (Below.refl _ _)) (fact_put (P := isEq (.slice (some ⟨vb, voff, none⟩) ln vcap)) rfl rfl)
                     refine AllG.cons (k' := 7) rfl ?_ ?_
                     · intro _
                       intro a' w' hB hk hin KK hK
                       have hkk : a'.tmps[7]? = some (.int .i64 (j : Int)) := (hk 7 (by kernel_rfl)).trans rfl
                       have hev := eval_tmp hkk
                       unfold Oper.wp execOp
                       simp only [hev, Sem.run_pure]
                       exact hK _ _ hB (KeepsC.of_below (Below.refl _ _)) (fact_put (P := isEq (.int .i64 (j : Int))) rfl rfl)
                     refine AllG.cons (k' := 8) rfl ?_ ?_
                     · intro _
                       intro a' w' hB hk hin KK hK
                       obtain ⟨v5, e5, q5⟩ := hin 5 _ 140 rfl rfl ⟨{ on := 5, ground := .data }, by simp, rfl, rfl⟩
                       have q5 := fact_get (P := isEq (.slice (some ⟨vb, voff, none⟩) ln vcap)) rfl q5
                       have q5' : v5 = .slice (some ⟨vb, voff, none⟩) ln vcap := q5
                       subst q5'
                       obtain ⟨v6, e6, q6⟩ := hin 6 _ 141 rfl rfl ⟨{ on := 6, ground := .data }, by simp, rfl, rfl⟩
                       have q6 := fact_get (P := isEq (.int .i64 (j : Int))) rfl q6
                       have q6' : v6 = .int .i64 (j : Int) := q6
                       subst q6'
                       unfold Oper.wp execOp
                       go_simp
                       exact hK _ _ hB (KeepsC.of_below (Below.refl _ _)) (fact_put (P := isEq (.pointer (some ⟨vb, voff + j * 3, none⟩))) rfl rfl)
                     refine AllG.cons (k' := 9) rfl ?_ ?_
                     · intro _
                       intro a' w' hB hk hin KK hK
                       obtain ⟨v7, e7, q7⟩ := hin 7 _ 142 rfl rfl ⟨{ on := 7, ground := .data }, by simp, rfl, rfl⟩
                       have q7 := fact_get (P := isEq (.pointer (some ⟨vb, voff + j * 3, none⟩))) rfl q7
                       have q7' : v7 = .pointer (some ⟨vb, voff + j * 3, none⟩) := q7
                       subst q7'
                       refine wp_load_rv _ rfl vb (voff + j * 3) ds0 (eval_tmp e7) (HV.out w' hB) ?_
                       exact hK _ _ hB (KeepsC.of_below (Below.refl _ _)) (fact_put (P := isEq (.agg ds0.toArray)) rfl rfl)
                     refine AllG.cons (k' := 10) rfl ?_ ?_
                     · intro _
                       intro a' w' hB hk hin KK hK
                       have hkk : a'.tmps[2]? = some (.bool true) := (hk 2 (by kernel_rfl)).trans rfl
                       have hev := eval_tmp hkk
                       unfold Oper.wp execOp
                       simp only [hev, Sem.run_pure]
                       exact hK _ _ hB (KeepsC.of_below (Below.refl _ _)) (fact_put (P := isEq (.bool true)) rfl rfl)
                     refine AllG.cons (k' := 11) rfl ?_ ?_
                     · intro _
                       intro a' w' hB hk hin KK hK
                       obtain ⟨v8, e8, q8⟩ := hin 3 _ 138 rfl rfl ⟨{ on := 3, ground := .data }, by simp, rfl, rfl⟩
                       have q8 := fact_get (P := isEq (.agg es0.toArray)) rfl q8
                       have q8' : v8 = .agg es0.toArray := q8
                       subst q8'
                       obtain ⟨v9, e9, q9⟩ := hin 8 _ 143 rfl rfl ⟨{ on := 8, ground := .data }, by simp, rfl, rfl⟩
                       have q9 := fact_get (P := isEq (.agg ds0.toArray)) rfl q9
                       have q9' : v9 = .agg ds0.toArray := q9
                       subst q9'
                       obtain ⟨v10, e10, q10⟩ := hin 9 _ 144 rfl rfl ⟨{ on := 9, ground := .data }, by simp, rfl, rfl⟩
                       have q10 := fact_get (P := isEq (.bool true)) rfl q10
                       have q10' : v10 = .bool true := q10
                       subst q10'
                       unfold Oper.wp execOp
                       go_simp
                       refine (HG.out w' hB).mono ?_
                       rintro e wn ⟨rfl, hbn⟩
                       exact hK _ _ (hB.trans (hbn.mono hB.size)) (KeepsC.of_below hbn) (fact_put (P := isEq (.bool true)) rfl rfl)
                     refine AllG.cons (k' := 12) rfl ?_ ?_
                     · intro _
                       intro a' w' hB hk hin KK hK
                       obtain ⟨v11, e11, q11⟩ := hin 10 _ 145 rfl rfl ⟨{ on := 10, ground := .data }, by simp, rfl, rfl⟩
                       have q11 := fact_get (P := isEq (.bool true)) rfl q11
                       have q11' : v11 = .bool true := q11
                       subst q11'
                       unfold Oper.wp execOp
                       go_simp
                       exact hK _ _ hB (KeepsC.of_below (Below.refl _ _)) (fact_put (P := isEq (.bool false)) rfl rfl)
                     refine AllG.cons (k' := 13) rfl ?_ ?_
                     · intro _
                       intro a' w' hB hk hin KK hK
                       obtain ⟨v12, e12, q12⟩ := hin 11 _ 146 rfl rfl ⟨{ on := 11, ground := .data }, by simp, rfl, rfl⟩
                       have q12 := fact_get (P := isEq (.bool false)) rfl q12
                       have q12' : v12 = .bool false := q12
                       subst q12'
                       unfold Oper.wp execOp
                       go_simp
                       exact hK _ _ hB (KeepsC.of_below (Below.refl _ _)) (fact_put (P := isEq (.bool false)) rfl rfl)
                     refine AllG.cons (k' := 14) rfl ?_ ?_
                     · intro _
                       intro a' w' hB hk hin KK hK
                       have hkk : a'.tmps[2]? = some (.bool true) := (hk 2 (by kernel_rfl)).trans rfl
                       have hev := eval_tmp hkk
                       unfold Oper.wp execOp
                       simp only [hev, Sem.run_pure]
                       exact hK _ _ hB (KeepsC.of_below (Below.refl _ _)) (fact_put (P := isEq (.bool true)) rfl rfl)
                     refine AllG.cons (k' := 15) rfl ?_ ?_
                     · intro _
                       intro a' w' hB hk hin KK hK
                       obtain ⟨v13, e13, q13⟩ := hin 13 _ 148 rfl rfl ⟨{ on := 13, ground := .data }, by simp, rfl, rfl⟩
                       have q13 := fact_get (P := isEq (.bool true)) rfl q13
                       have q13' : v13 = .bool true := q13
                       subst q13'
                       unfold Oper.wp execOp
                       go_simp
                       exact hK _ _ hB (KeepsC.of_below (Below.refl _ _)) (fact_put (P := isEq (.bool true)) rfl rfl)
                     refine AllG.cons (k' := 16) rfl ?_ ?_
                     · intro _
                       intro a' w' hB hk hin KK hK
                       have hkk : a'.tmps[4]? = some (.pointer (some ⟨w.heap.size + 1, 0, none⟩)) := (hk 4 (by kernel_rfl)).trans rfl
                       have hev := eval_tmp hkk
                       unfold Oper.wp execOp
                       go_simp
                       exact hK _ _ hB (KeepsC.of_below (Below.refl _ _)) (fact_put (P := isEq (.pointer (some ⟨w.heap.size + 1, 2, none⟩))) rfl rfl)
                     refine AllG.cons (k' := 17) rfl ?_ ?_
                     · intro _
                       intro a' w' hB hk hin KK hK
                       obtain ⟨v14, e14, q14⟩ := hin 15 _ 150 rfl rfl ⟨{ on := 15, ground := .data }, by simp, rfl, rfl⟩
                       have q14 := fact_get (P := isEq (.pointer (some ⟨w.heap.size + 1, 2, none⟩))) rfl q14
                       have q14' : v14 = .pointer (some ⟨w.heap.size + 1, 2, none⟩) := q14
                       subst q14'
                       have hcell := HL.out w' hB
                       unfold Oper.wp execOp
                       go_simp
                       exact hK _ _ hB (KeepsC.of_below (Below.refl _ _)) (fact_put (P := isEq (.slice (some ⟨vb, voff, none⟩) ln vcap)) rfl rfl)
                     refine AllG.cons (k' := 18) rfl ?_ ?_
                     · intro _
                       intro a' w' hB hk hin KK hK
                       have hkk : a'.tmps[7]? = some (.int .i64 (j : Int)) := (hk 7 (by kernel_rfl)).trans rfl
                       have hev := eval_tmp hkk
                       unfold Oper.wp execOp
                       simp only [hev, Sem.run_pure]
                       exact hK _ _ hB (KeepsC.of_below (Below.refl _ _)) (fact_put (P := isEq (.int .i64 (j : Int))) rfl rfl)
                     refine AllG.cons (k' := 19) rfl ?_ ?_
                     · intro _
                       intro a' w' hB hk hin KK hK
                       obtain ⟨v15, e15, q15⟩ := hin 16 _ 151 rfl rfl ⟨{ on := 16, ground := .data }, by simp, rfl, rfl⟩
                       have q15 := fact_get (P := isEq (.slice (some ⟨vb, voff, none⟩) ln vcap)) rfl q15
                       have q15' : v15 = .slice (some ⟨vb, voff, none⟩) ln vcap := q15
                       subst q15'
                       obtain ⟨v16, e16, q16⟩ := hin 17 _ 152 rfl rfl ⟨{ on := 17, ground := .data }, by simp, rfl, rfl⟩
                       have q16 := fact_get (P := isEq (.int .i64 (j : Int))) rfl q16
                       have q16' : v16 = .int .i64 (j : Int) := q16
                       subst q16'
                       unfold Oper.wp execOp
                       go_simp
                       exact hK _ _ hB (KeepsC.of_below (Below.refl _ _)) (fact_put (P := isEq (.pointer (some ⟨vb, voff + j * 3, none⟩))) rfl rfl)
                     refine AllG.cons (k' := 20) rfl ?_ ?_
                     · intro _
                       intro a' w' hB hk hin KK hK
                       obtain ⟨v17, e17, q17⟩ := hin 18 _ 153 rfl rfl ⟨{ on := 18, ground := .data }, by simp, rfl, rfl⟩
                       have q17 := fact_get (P := isEq (.pointer (some ⟨vb, voff + j * 3, none⟩))) rfl q17
                       have q17' : v17 = .pointer (some ⟨vb, voff + j * 3, none⟩) := q17
                       subst q17'
                       refine wp_load_rv _ rfl vb (voff + j * 3) ds0 (eval_tmp e17) (HV.out w' hB) ?_
                       exact hK _ _ hB (KeepsC.of_below (Below.refl _ _)) (fact_put (P := isEq (.agg ds0.toArray)) rfl rfl)
                     refine AllG.cons (k' := 21) rfl ?_ ?_
                     · intro _
                       intro a' w' hB hk hin KK hK
                       obtain ⟨v18, e18, q18⟩ := hin 19 _ 154 rfl rfl ⟨{ on := 19, ground := .data }, by simp, rfl, rfl⟩
                       have q18 := fact_get (P := isEq (.agg ds0.toArray)) rfl q18
                       have q18' : v18 = .agg ds0.toArray := q18
                       subst q18'
                       unfold Oper.wp execOp
                       go_simp
                       refine (HF.out rfl w' hB).mono ?_
                       rintro e wn ⟨v5, rfl, hv5, hbn⟩
                       exact hK _ _ (hB.trans (hbn.mono hB.size)) (KeepsC.of_below hbn) (fact_put (P := isRow nf) rfl hv5)
                     refine AllG.cons (k' := 22) rfl ?_ ?_
                     · intro _
                       intro a' w' hB hk hin KK hK
                       obtain ⟨v19, e19, q19⟩ := hin 20 _ 155 rfl rfl ⟨{ on := 20, ground := .data }, by simp, rfl, rfl⟩
                       have q19 := fact_get (P := isRow nf) rfl q19
                       obtain ⟨p19, c19, rfl⟩ := q19
                       unfold Oper.wp execOp
                       go_simp
                       exact hK _ _ hB (KeepsC.of_below (Below.refl _ _)) (fact_put (P := isEq (.int .i64 (nf : Int))) rfl rfl)
                     refine AllG.cons (k' := 23) rfl ?_ ?_
                     · intro _
                       intro a' w' hB hk hin KK hK
                       obtain ⟨v20, e20, q20⟩ := hin 21 _ 156 rfl rfl ⟨{ on := 21, ground := .data }, by simp, rfl, rfl⟩
                       have q20 := fact_get (P := isEq (.int .i64 (nf : Int))) rfl q20
                       have q20' : v20 = .int .i64 (nf : Int) := q20
                       subst q20'
                       unfold Oper.wp execOp
                       go_simp
                       rw [HZ.out]
                       exact hK _ _ hB (KeepsC.of_below (Below.refl _ _)) (fact_put (P := isEq (.bool z)) rfl rfl)
                     refine AllG.cons (k' := 24) rfl ?_ ?_
                     · intro _
                       intro a' w' hB hk hin KK hK
                       obtain ⟨v21, e21, q21⟩ := hin 14 _ 149 rfl rfl ⟨{ on := 14, ground := .data }, by simp, rfl, rfl⟩
                       have q21 := fact_get (P := isEq (.bool true)) rfl q21
                       have q21' : v21 = .bool true := q21
                       subst q21'
                       obtain ⟨v22, e22, q22⟩ := hin 22 _ 157 rfl rfl ⟨{ on := 22, ground := .data }, by simp, rfl, rfl⟩
                       have q22 := fact_get (P := isEq (.bool z)) rfl q22
                       have q22' : v22 = .bool z := q22
                       subst q22'
                       unfold Oper.wp execOp
                       go_simp
                       exact hK _ _ hB (KeepsC.of_below (Below.refl _ _)) (fact_put (P := isEq (.bool z)) rfl rfl)
                     refine AllG.cons (k' := 25) rfl ?_ ?_
                     · intro _
                       intro a' w' hB hk hin KK hK
                       obtain ⟨v23, e23, q23⟩ := hin 12 _ 147 rfl rfl ⟨{ on := 12, ground := .data }, by simp, rfl, rfl⟩
                       have q23 := fact_get (P := isEq (.bool false)) rfl q23
                       have q23' : v23 = .bool false := q23
                       subst q23'
                       obtain ⟨v24, e24, q24⟩ := hin 23 _ 158 rfl rfl ⟨{ on := 23, ground := .data }, by simp, rfl, rfl⟩
                       have q24 := fact_get (P := isEq (.bool z)) rfl q24
                       have q24' : v24 = .bool z := q24
                       subst q24'
                       unfold Oper.wp execOp
                       go_simp
                       exact hK _ _ hB (KeepsC.of_below (Below.refl _ _)) (fact_put (P := isEq (.bool z)) rfl rfl)
                     exact AllG.nil
                   case hend =>
                     intro a' w' hB hdef hsz hk hvals
                     obtain ⟨v', hv', hvt⟩ := hvals 24 _ 159 rfl rfl
                     have hvt' := fact_get (P := isEq (.bool z)) rfl hvt
                     have hvt2 : v' = .bool z := hvt'
                     subst hvt2
                     have hf0 : a'.tmps.getD 159 undef = .bool z := by rw [Array.getD_eq_getD_getElem?, hv']; rfl
                     have heq := act_eq hdef hsz hk
                     refine hMet a' w' (Met.intro (hR a' w' ?_))
                     refine ⟨a'.tmps.getD 135 undef, a'.tmps.getD 136 undef, a'.tmps.getD 137 undef, a'.tmps.getD 138 undef, a'.tmps.getD 139 undef, a'.tmps.getD 140 undef, a'.tmps.getD 141 undef, a'.tmps.getD 142 undef, a'.tmps.getD 143 undef, a'.tmps.getD 144 undef, a'.tmps.getD 145 undef, a'.tmps.getD 146 undef, a'.tmps.getD 147 undef, a'.tmps.getD 148 undef, a'.tmps.getD 149 undef, a'.tmps.getD 150 undef, a'.tmps.getD 151 undef, a'.tmps.getD 152 undef, a'.tmps.getD 153 undef, a'.tmps.getD 154 undef, a'.tmps.getD 155 undef, a'.tmps.getD 156 undef, a'.tmps.getD 157 undef, a'.tmps.getD 158 undef, a'.tmps.getD 159 undef, ⟨hf0, hB⟩, heq.trans ?_⟩
                     kernel_rfl
                  case rest =>
                   obtain ⟨rfl, hBc⟩ := hcut
                   have HBc := Lib.hid hBc
                   clear hBc
                   cases z with
                   | true =>
                     have hnz : nf = 0 := by have h := HZ.out; simp at h; omega
                     have hRf : R = false := by rw [HR.out]; exact Hpart.out (by rw [HPj.out, hnz]; rfl)
                     clear HR
                     subst hRf
                     go_wp2_with fail
                     go_ret
                     exact ⟨rfl, HBw.out.trans (HBc.out.mono HBw.out.size)⟩
                   | false =>
                     have hnz : 0 < nf := by have h := HZ.out; simp at h; omega
                     go_wp2_with fail
                     go_roundw
                     case rel => exact ⟨j + 1, by go_num, Hjl.out, Lib.hid (by rw [Hstep.out, hall.out, HPj.out, decide_eq_true hnz]; rfl), Lib.hid (hB.out.trans (HBc.out.mono hB.out.size))⟩
                     case measure => have := Hjl.out; simp [intOf]; omega
            · obtain rfl : j = ln := by omega
              have hdj : decide ((j : Int) < j) = false := by simp
              have hRt : R = true := by
                have h := hall.out
                rw [← Hln.out, List.take_length] at h
                rw [HR.out, h]
              clear HR
              subst hRt
              go_wp2_with fail
              go_ret
              exact ⟨rfl, HBel.out.trans (hB.out.mono HBel.out.size)⟩
        ·
          have e3 : (vk == 6) = false := by simp [h3]
          have n3 : (vk != 6) = true := by simp [h3]
          rw [show gv full (.mk 5 s n [c0]) (.mk vk b vl) = false from by rw [gv_five _ _ _ _ hbe, e3]; rfl]
          generalize hC : K.rcCells 5 s n (.slice (some ⟨cb, coff, none⟩) 1 cap) = C at hW ⊢
          clear hC hbel hcc hmax hva0
          try clear h4
          try clear hbe
          try clear hR0
          try clear hR1
          try clear hl
          try clear hcap
          try clear hcb
          try clear hf0
          try clear hc0
          try clear hf1
          try clear hc1
          try clear hv
          try clear hvl
          try clear hfk
          try clear hvmax
          try clear hmx
          try clear ih
          try clear h2
          try clear hb0
          try clear h3
          try clear hL
          try clear hln
          try clear hval
          try clear hfz
          go_enter Tryd.func60, Tryd.ntmps60
          go_upto_region 1 with (first
            | (refine Go.Great.wpList_boxTo rfl _ _ rfl _ rfl w.heap.size rfl C.toArray rfl ?_)
            | fail)
          rw [← hW]
          clear hW
          go_wp2_with fail
          go_ret
          exact ⟨rfl, HBel.out⟩
      · have nb : ((b : Int) != 0) = true := by simp; omega
        rw [gv_byte (by decide) full s n _ h2 hb0]
        generalize hC : K.rcCells 5 s n (.slice (some ⟨cb, coff, none⟩) 1 cap) = C at hW ⊢
        clear hC hbel hcc hmax hva0
        try clear h4
        try clear hbe
        try clear hR0
        try clear hR1
        try clear hl
        try clear hcap
        try clear hcb
        try clear hf0
        try clear hc0
        try clear hf1
        try clear hc1
        try clear hv
        try clear hvl
        try clear hfk
        try clear hvmax
        try clear hmx
        try clear ih
        try clear h2
        try clear hb0
        try clear h3
        try clear hL
        try clear hln
        try clear hval
        try clear hfz
        go_enter Tryd.func60, Tryd.ntmps60
        go_upto_region 1 with (first
          | (refine Go.Great.wpList_boxTo rfl _ _ rfl _ rfl w.heap.size rfl C.toArray rfl ?_)
          | fail)
        rw [← hW]
        clear hW
        go_wp2_with fail
        go_ret
        exact ⟨rfl, HBel.out⟩
end V
end Go.Proofs.YtonhmjfopidacaaDoor
namespace Go.Proofs.YtonhmjfopidacaaDoor
namespace V
set_option maxRecDepth 100000
open Go.RowKit
theorem len_two : ∀ {l : List K.Cr}, l.length = 2 → ∃ a b, l = [a, b]
  | [a, b], _ => ⟨a, b, rfl⟩
  | [], h => by cases h
  | [_], h => by cases h
  | _ :: _ :: _ :: _, h => by simp at h
theorem refGoodV_any : ∀ m, GoodIH m
  | 0 => fun c _ _ _ _ _ h => absurd (K.Cr.count_pos c) (by omega)
  | m + 1 => by
    intro c v cs ds full w hm hf hv hat hva
    have ih := refGoodV_any m
    obtain ⟨k, s, n, l⟩ := c
    obtain ⟨vk, b, vl⟩ := v
    rw [K.form_mk, Bool.and_eq_true] at hf
    obtain ⟨hp, hfs⟩ := hf
    rw [K.count_mk] at hm
    have hp2 : 0 ≤ k ∧ k ≤ 7 ∧ (l.length : Int) = K.partsC k := by
      rw [K.part_eq] at hp
      simp only [Bool.not_eq_true', Bool.or_eq_false_iff, decide_eq_false_iff_not, Bool.not_eq_false', beq_iff_eq] at hp
      obtain ⟨⟨⟨⟨⟨h1, h2⟩, h3⟩, _⟩, _⟩, _⟩ := hp
      exact ⟨by omega, by omega, h3⟩
    obtain ⟨h0, h7, hl⟩ := hp2
    have hk : k = 0 ∨ k = 1 ∨ k = 2 ∨ k = 3 ∨ k = 4 ∨ k = 5 ∨ k = 6 ∨ k = 7 := by omega
    rcases hk with rfl | rfl | rfl | rfl | rfl | rfl | rfl | rfl
    · obtain rfl : l = [] := List.length_eq_zero_iff.1 (by have h9 : K.partsC 0 = 0 := (by decide); omega)
      exact gvk_0 ih s n vk b vl _ rfl cs ds full w hv hat hva
    · obtain rfl : l = [] := List.length_eq_zero_iff.1 (by have h9 : K.partsC 1 = 0 := (by decide); omega)
      exact gvk_1 ih s n vk b vl _ rfl cs ds full w hv hat hva
    · obtain rfl : l = [] := List.length_eq_zero_iff.1 (by have h9 : K.partsC 2 = 0 := (by decide); omega)
      exact gvk_2 ih s n vk b vl _ rfl cs ds full w hv hat hva
    · obtain ⟨c0, c1, rfl⟩ := len_two (show l.length = 2 by have h9 : K.partsC 3 = 2 := (by decide); omega)
      rw [K.forms_cons, K.forms_cons, Bool.and_eq_true, Bool.and_eq_true] at hfs
      rw [K.counts_cons, K.counts_cons] at hm
      exact gvk_3 ih s n c0 (by omega) hfs.1 c1 (by omega) hfs.2.1 vk b vl _ rfl cs ds full w hv hat hva
    · obtain ⟨c0, c1, rfl⟩ := len_two (show l.length = 2 by have h9 : K.partsC 4 = 2 := (by decide); omega)
      rw [K.forms_cons, K.forms_cons, Bool.and_eq_true, Bool.and_eq_true] at hfs
      rw [K.counts_cons, K.counts_cons] at hm
      exact gvk_4 ih s n c0 (by omega) hfs.1 c1 (by omega) hfs.2.1 vk b vl _ rfl cs ds full w hv hat hva
    · obtain ⟨c0, rfl⟩ := List.length_eq_one_iff.1 (show l.length = 1 by have h9 : K.partsC 5 = 1 := (by decide); omega)
      rw [K.forms_cons, Bool.and_eq_true] at hfs
      rw [K.counts_cons] at hm
      exact gvk_5 ih s n c0 (by omega) hfs.1 vk b vl _ rfl cs ds full w hv hat hva
    · obtain ⟨c0, rfl⟩ := List.length_eq_one_iff.1 (show l.length = 1 by have h9 : K.partsC 6 = 1 := (by decide); omega)
      rw [K.forms_cons, Bool.and_eq_true] at hfs
      rw [K.counts_cons] at hm
      exact gvk_6 ih s n c0 (by omega) hfs.1 vk b vl _ rfl cs ds full w hv hat hva
    · obtain ⟨c0, rfl⟩ := List.length_eq_one_iff.1 (show l.length = 1 by have h9 : K.partsC 7 = 1 := (by decide); omega)
      rw [K.forms_cons, Bool.and_eq_true] at hfs
      rw [K.counts_cons] at hm
      exact gvk_7 ih s n c0 (by omega) hfs.1 vk b vl _ rfl cs ds full w hv hat hva
theorem wpList_load_refval_want2 {ops : Array Oper} {rest : List Oper} {o : Oper} {a : Act} {w : World} {Q : Exit → Act → World → Prop} (hw : Region.wanted o (yielded ops a.tmps) = true) (x : Operand) (ho : o.op = .load 61 x)
    (b off : Nat) (cs : List Value) (hx : a.eval x = .pointer (some ⟨b, off, none⟩)) (hc : Val3 w b off cs)
    (h : wpList Tryd.prog ops Q rest (a.put o.dst (.agg cs.toArray)) w) : wpList Tryd.prog ops Q (o :: rest) a w := wpList_load_refval_want hw x ho b off cs hx hc h
set_option maxHeartbeats 4000000 in
theorem refGoodValue_any (c : K.Cr) (v : Vl) (cs ds : List Value) (w : World) (hat : K.Cr.ref w c cs) (hva : Vl.at w v ds) :
    Calls Tryd.prog 44 #[.agg cs.toArray, .agg ds.toArray] w fun e w' => e = .returned (.bool (goodV c v)) ∧ Below w.heap.size w w' := by
  obtain ⟨W, hW⟩ : ∃ W, W = (w.alloc (.cells cs.toArray 57)).alloc (.cells ds.toArray 61) := ⟨_, rfl⟩
  have hbel : Below w.heap.size w W := by rw [hW]; exact ((Below.refl _ _).alloc (Nat.le_refl _) _).alloc (by simp) _
  have hbx : K.RefC W w.heap.size 0 cs := K.refc_box (K.refc_len hat) W (by rw [hW]; exact (K.alloc_below _ _).mono (by simp))
  have hvb : Val3 W (w.heap.size + 1) 0 ds := by
    rw [hW]
    have h := rbox_start (w.alloc (.cells cs.toArray 57)) ds.toArray
    rw [World.size_alloc] at h
    exact rval3_in h (at_len hva)
  have hlw : w.heap.size + 1 < W.heap.size := hvb.lt
  have Hbx := Lib.hid (fun (w' : World) (h : Below W.heap.size W w') => rc_later hbx h)
  have Hvb := Lib.hid (fun (w' : World) (h : Below W.heap.size W w') => hvb.below hlw h)
  have Hgd := Lib.hid (K.refGoodC_any c cs W (K.Cr.ref_below hbel hat))
  have Hgv := Lib.hid (fun (w' : World) (h : Below W.heap.size W w') (hg : K.goodC c = true) => refGoodV_any c.count c v cs ds false w' (Nat.le_refl _) (by unfold K.goodC at hg; rw [Bool.and_eq_true] at hg; exact hg.2) (fun h => by cases h) (K.Cr.ref_below (hbel.trans (h.mono hbel.size)) hat) (Vl.at_below (hbel.trans (h.mono hbel.size)) (Nat.le_refl _) _ _ hva))
  have Hbel := Lib.hid hbel
  have Hres := Lib.hid (show goodV c v = (K.goodC c && gv false c v) from by unfold goodV gv; simp)
  generalize goodV c v = R at Hres ⊢
  generalize gv false c v = r at Hgv Hres
  obtain ⟨k2, z2, a2, len2, cap2, rfl⟩ := at_lit hva
  clear hbel hbx hvb hlw hat hva
  cases hg : K.goodC c with
  | true =>
    rw [hg] at Hgd Hres
    have Hg := Lib.hid hg
    have hR : R = r := by rw [Hres.out]; rfl
    subst hR
    clear hg Hres
    go_enter Tryd.func44, Tryd.ntmps44
    go_upto_region 1 with (first
      | (refine Go.Great.wpList_boxTo rfl _ _ rfl _ rfl w.heap.size rfl cs.toArray rfl ?_)
      | fail)
    rw [← hW]
    clear hW
    go_wp2_with (first
      | (refine K.wpList_load_refcore rfl _ rfl w.heap.size 0 cs rfl (Hbx.out _ (Below.refl _ _)) ?_)
      | fail)
    refine Hgd.out.mono ?_
    rintro e w1 ⟨rfl, hb1⟩
    have Hb1 := Lib.hid hb1
    clear hb1
    go_wp2_with (first
      | go_big_skip
      | (refine K.wpList_load_refcore_want (by rfl) _ rfl w.heap.size 0 cs rfl (Hbx.out _ Hb1.out) ?_)
      | (refine wpList_load_refval_want (by rfl) _ rfl (w.heap.size + 1) 0 _ rfl (Hvb.out _ Hb1.out) ?_)
      | fail)
    refine (Hgv.out _ Hb1.out Hg.out).mono ?_
    rintro e w2 ⟨rfl, hb2⟩
    have Hb2 := Lib.hid (Hb1.out.trans (hb2.mono Hb1.out.size))
    clear hb2
    go_wp2_with fail
    go_ret
    exact ⟨rfl, Hbel.out.trans (Hb2.out.mono Hbel.out.size)⟩
  | false =>
    rw [hg] at Hgd Hres
    have hR : R = false := by rw [Hres.out]; rfl
    subst hR
    clear hg Hres Hgv
    go_enter Tryd.func44, Tryd.ntmps44
    go_upto_region 1 with (first
      | (refine Go.Great.wpList_boxTo rfl _ _ rfl _ rfl w.heap.size rfl cs.toArray rfl ?_)
      | fail)
    rw [← hW]
    clear hW
    go_wp2_with (first
      | (refine K.wpList_load_refcore rfl _ rfl w.heap.size 0 cs rfl (Hbx.out _ (Below.refl _ _)) ?_)
      | fail)
    refine Hgd.out.mono ?_
    rintro e w1 ⟨rfl, hb1⟩
    have Hb1 := Lib.hid hb1
    clear hb1
    go_wp2_with (first | go_big_skip | fail)
    go_ret
    exact ⟨rfl, Hbel.out.trans (Hb1.out.mono Hbel.out.size)⟩
theorem refGoodValue_walk (c : K.Cr) (v : Vl) (cs ds : List Value) (w : World) (_hv : v.count ≤ 70368744177664) (hat : K.Cr.ref w c cs) (hva : Vl.at w v ds) :
    Calls Tryd.prog 44 #[.agg cs.toArray, .agg ds.toArray] w fun e w' => e = .returned (.bool (goodV c v)) ∧ Below w.heap.size w w' := refGoodValue_any c v cs ds w hat hva
end V
end Go.Proofs.YtonhmjfopidacaaDoor
