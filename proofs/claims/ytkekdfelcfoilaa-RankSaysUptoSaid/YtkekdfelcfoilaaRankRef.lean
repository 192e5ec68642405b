/- The document's own Rank, walked for values whose lengths don't wrap. -/
import Derived.Test.YtkekdfelcfoilaaRankOrd
import Derived.Test.YtkekdfelcfoilaaRankKit
import Derived.Test.YtkekdfelcfoilaaRefVals
import Derived.Deep.DeepCutAuto
namespace Go.Proofs.Ytkekdfelcfoilaa
namespace V
set_option maxRecDepth 100000
open Go.RowKit
theorem owned_form {w : World} {base size n : Nat} {t : TypeId} {v : Value} {xs : List Value} (h : w.ownsRow base t size v n xs) : ∃ a cap, v = .slice a n cap := by
  rcases h.2 with ⟨rfl, h0⟩ | ⟨g, cap, _, hv, _⟩
  · exact ⟨none, 0, by rw [h0]⟩
  · exact ⟨_, cap, hv⟩
theorem sign_any (b : Bool) (w : World) : Calls Try.prog 22 #[.bool b] w fun e w' => e = .returned (.int .i64 (if b then -1 else 1)) ∧ Below w.heap.size w w' := by
  cases b
  · go_enter Try.func22, Try.ntmps22
    go_wp2_with fail
    go_ret
    exact ⟨rfl, Below.refl _ _⟩
  · go_enter Try.func22, Try.ntmps22
    go_wp2_with fail
    go_ret
    exact ⟨rfl, Below.refl _ _⟩
theorem sign_cmp {a b : Int} (h : a ≠ b) : (if decide (a < b) = true then (-1 : Int) else 1) = cmpI a b := by
  unfold cmpI
  by_cases h1 : a < b
  · rw [if_pos (decide_eq_true h1), if_pos h1]
  · rw [if_neg (by simp; omega), if_neg h1, if_pos (by omega)]
theorem KeptR.low2 {w w' : World} (h : KeptR w.heap.size w w') : Below w.heap.size w w' := h.below (Nat.le_refl _) (Nat.le_refl _)
theorem bt3 {a b c : World} (h : Below a.heap.size a b) (h' : Below b.heap.size b c) : Below a.heap.size a c := h.trans (h'.mono h.size)
theorem at3 {w w' : World} {x : Vl} {cs : List Value} (h : Vl.at w x cs) (hb : Below w.heap.size w w') : Vl.at w' x cs := Vl.at_below hb (Nat.le_refl _) _ _ h
def RkOk (x : Vl) : Prop := ∀ (y : Vl) (cs ds : List Value) (w : World), Small x → Small y → Vl.at w x cs → Vl.at w y ds →
  Calls Try.prog 16 #[.agg cs.toArray, .agg ds.toArray] w fun e w' => e = .returned (.int .i64 (ord x y)) ∧ Below w.heap.size w w'
theorem ord_ahead {x y : Vl} (hx : Small x) (hy : Small y) (h : y.flat.length < x.flat.length) : ord x y = -1 := by
  have h1 := len_bytes x.count x (Nat.le_refl _) (by have h : x.count ≤ 1048576 := hx; omega)
  have h2 := len_bytes y.count y (Nat.le_refl _) (by have h : y.count ≤ 1048576 := hy; omega)
  rw [ord_eq, longer_small hx hy, h1, h2]
  have e : cmpI 0 ((x.flat.length : Int) - y.flat.length) = -1 := by unfold cmpI; rw [if_pos (by omega)]
  rw [e]; rfl
theorem ord_behind {x y : Vl} (hx : Small x) (hy : Small y) (h : x.flat.length < y.flat.length) : ord x y = 1 := by
  have h1 := len_bytes x.count x (Nat.le_refl _) (by have h : x.count ≤ 1048576 := hx; omega)
  have h2 := len_bytes y.count y (Nat.le_refl _) (by have h : y.count ≤ 1048576 := hy; omega)
  rw [ord_eq, longer_small hx hy, h1, h2]
  have e : cmpI 0 ((x.flat.length : Int) - y.flat.length) = 1 := by unfold cmpI; rw [if_neg (by omega), if_pos (by omega)]
  rw [e]; rfl
theorem ord_level {x y : Vl} (hx : Small x) (hy : Small y) (h : x.flat.length = y.flat.length) : ord x y = part x y := by
  have h1 := len_bytes x.count x (Nat.le_refl _) (by have h : x.count ≤ 1048576 := hx; omega)
  have h2 := len_bytes y.count y (Nat.le_refl _) (by have h : y.count ≤ 1048576 := hy; omega)
  rw [ord_eq, longer_small hx hy, h1, h2, h, Int.sub_self, cmpI_self, orI_zero]
theorem cntd_two {x : Vl} (h : x.kind = 2) : cntd x = [] := by
  cases x with
  | mk k z l =>
    have h' : k = 2 := h
    subst h'
    rfl
theorem part_same {x y : Vl} (hk : x.kind = y.kind) (hz : x.kind = 2 → x.byte = y.byte) : part x y = ordL (cntd x) (cntd y) := by
  unfold part
  rw [if_pos hk]
  by_cases h : x.kind = 2
  · rw [if_pos h, hz h, cmpI_self, cntd_two h, cntd_two (hk ▸ h)]; rfl
  · rw [if_neg h]
set_option maxHeartbeats 64000000 in
theorem rank_step {x : Vl} (hx : ∀ u ∈ cntd x, RkOk u) : RkOk x := by
  intro y cs ds w hsx hsy hc hd
  obtain ⟨W, hW⟩ : ∃ W, W = (w.alloc (.cells cs.toArray 36)).alloc (.cells ds.toArray 36) := ⟨_, rfl⟩
  have hbW : Below w.heap.size w W := by rw [hW]; exact ((Below.refl _ _).alloc (Nat.le_refl _) _).alloc (by simp) _
  have hv1 : Val3 W w.heap.size 0 cs := by
    rw [hW]
    exact Val3.below (rval3_in (World.alloc_heap_new w (.cells cs.toArray 36)) (at_len hc)) (B := w.heap.size + 1) (by omega) ((Below.refl _ _).alloc (by simp) _)
  have hv2 : Val3 W (w.heap.size + 1) 0 ds := by
    have h := World.alloc_heap_new (w.alloc (.cells cs.toArray 36)) (.cells ds.toArray 36)
    rw [World.size_alloc] at h
    rw [hW]
    exact rval3_in h (at_len hd)
  have HA1 := Lib.hid (fun w' (h : Below W.heap.size W w') => at3 hc (bt3 hbW h))
  have HA2 := Lib.hid (fun w' (h : Below W.heap.size W w') => at3 hd (bt3 hbW h))
  have HV1 := Lib.hid (fun w' (h : Below W.heap.size W w') => Val3.below hv1 hv1.lt h)
  have HV2 := Lib.hid (fun w' (h : Below W.heap.size W w') => Val3.below hv2 hv2.lt h)
  have HbW := Lib.hid hbW
  have HFx := Lib.hid (fun w' (h : Below W.heap.size W w') => refFlat_any x.count x cs w' (Nat.le_refl _) (HA1.out w' h) (by have h1 := flat_le x; have h2 : x.count ≤ 1048576 := hsx; omega))
  have HFy := Lib.hid (fun w' (h : Below W.heap.size W w') => refFlat_any y.count y ds w' (Nat.le_refl _) (HA2.out w' h) (by have h1 := flat_le y; have h2 : y.count ≤ 1048576 := hsy; omega))
  have HCx := Lib.hid (fun w' (h : Below W.heap.size W w') => refCounted_all (HA1.out w' h))
  have HCy := Lib.hid (fun w' (h : Below W.heap.size W w') => refCounted_all (HA2.out w' h))
  have HX := Lib.hid hx
  have HS := Lib.hid (And.intro hsx hsy)
  have HO := Lib.hid (And.intro (fun h => ord_ahead hsx hsy h) (And.intro (fun h => ord_behind hsx hsy h) (fun h => ord_level hsx hsy h)))
  obtain ⟨a1, c1, e1, rfl⟩ := at_cells hc
  obtain ⟨a2, c2, e2, rfl⟩ := at_cells hd
  have p0 : ∀ w', Below W.heap.size W w' → w'.cell? ⟨w.heap.size, 0, none⟩ = some (.int .i64 x.kind) := fun w' h => (HV1.out w' h).2 0 (by decide)
  have q0 : ∀ w', Below W.heap.size W w' → w'.cell? ⟨w.heap.size + 1, 0, none⟩ = some (.int .i64 y.kind) := fun w' h => (HV2.out w' h).2 0 (by decide)
  have p1 : ∀ w', Below W.heap.size W w' → w'.cell? ⟨w.heap.size, 1, none⟩ = some (.int .u8 x.byte) := fun w' h => (HV1.out w' h).2 1 (by decide)
  have q1 : ∀ w', Below W.heap.size W w' → w'.cell? ⟨w.heap.size + 1, 1, none⟩ = some (.int .u8 y.byte) := fun w' h => (HV2.out w' h).2 1 (by decide)
  have HP := Lib.hid (And.intro p0 (And.intro q0 (And.intro p1 q1)))
  clear p0 q0 p1 q1
  have HPS : Hid (x.kind = y.kind → (x.kind = 2 → x.byte = y.byte) → part x y = ordL (cntd x) (cntd y)) := Lib.hid part_same
  have HPK : Hid (x.kind ≠ y.kind → part x y = cmpI x.kind y.kind) := Lib.hid fun h => by unfold part; rw [if_neg h]
  have HPB : Hid (x.kind = y.kind → x.kind = 2 → part x y = cmpI x.byte y.byte) := Lib.hid fun h h2 => by unfold part; rw [if_pos h, if_pos h2]
  have HSm : Hid (∀ u ∈ cntd x, ∀ v ∈ cntd y, Small u ∧ Small v) := Lib.hid fun u hu v hv => ⟨small_cntd hsx hu, small_cntd hsy hv⟩
  generalize x.nodes.length = ln1 at *
  generalize y.nodes.length = ln2 at *
  obtain ⟨fx, hfx⟩ : ∃ fx, fx = x.flat := ⟨_, rfl⟩
  obtain ⟨fy, hfy⟩ : ∃ fy, fy = y.flat := ⟨_, rfl⟩
  rw [← hfx] at HFx
  rw [← hfy] at HFy
  rw [← hfx, ← hfy] at HO
  clear hfx hfy
  generalize hnx : fx.length = nx at *
  generalize hny : fy.length = ny at *
  have HNx := Lib.hid hnx
  have HNy := Lib.hid hny
  clear hnx hny
  generalize ord x y = O at *
  generalize part x y = Pt at *
  generalize cntd x = lx at *
  generalize cntd y = ly at *
  generalize x.kind = kx at *
  generalize y.kind = ky at *
  generalize x.byte = zx at *
  generalize y.byte = zy at *
  clear hc hd hx hsx hsy hbW hv1 hv2 e1 e2
  go_enter Try.func16, Try.ntmps16
  go_upto_region 1 with fail
  rw [← hW]
  clear hW
  obtain ⟨wd, hwd⟩ : ∃ wd, wd = W.drew := ⟨_, rfl⟩
  have hBd : Below W.heap.size W wd := by rw [hwd]; exact (Below.refl _ _).drew
  have hKd : KeptR W.heap.size W wd := KeptR.of_below hBd
  have hNE : Nonempty (HeldW (KeptR W.heap.size W)) := ⟨⟨wd, hKd⟩⟩
  refine wp_region_hold (KeptR W.heap.size W) (.plain 0 (.plain 3 (.sole 1 (.plain 2 (.sole 4 (.plain 5 (.plain 6 (.plain 7 .done)))))))) (by rw [← hwd]; exact hKd) (by kernel_rfl) (by kernel_rfl) (fun c a d v w h => by cases d <;> exact h) ?_
  rw [← hwd]
  clear hwd
  repeat (first
      | (refine' hold_skip ?_ ?_ ?_
         rotate_left 1
         · simp only [List.getElem?_toArray, List.getElem?_cons_zero, List.getElem?_cons_succ]; exact rfl
         · exact rfl
         simp only [Act.put, List.setIfInBounds_toArray, List.set_cons_zero, List.set_cons_succ])
      | (refine' hold_want ?_ ?_ (fun J hJ => ?_)
         rotate_left 1
         · simp only [List.getElem?_toArray, List.getElem?_cons_zero, List.getElem?_cons_succ]; exact rfl
         · exact rfl
         first
         | (refine quiet_load_refval _ rfl w.heap.size 0 _ rfl (fun w' ⟨L, hL⟩ => hL ▸ HV1.out _ L.ok.low2) ?_; refine hJ _ ?_; clear hJ J; try simp only [Act.put, List.setIfInBounds_toArray, List.set_cons_zero, List.set_cons_succ])
         | (refine quiet_load_refval _ rfl (w.heap.size + 1) 0 _ rfl (fun w' ⟨L, hL⟩ => hL ▸ HV2.out _ L.ok.low2) ?_; refine hJ _ ?_; clear hJ J; try simp only [Act.put, List.setIfInBounds_toArray, List.set_cons_zero, List.set_cons_succ])
         | (refine quiet_extract _ _ rfl _ _ rfl rfl ?_; refine hJ _ ?_; clear hJ J; try simp only [Act.put, List.setIfInBounds_toArray, List.set_cons_zero, List.set_cons_succ])
         | (go_big_quiet_op; refine hJ _ ?_; clear hJ J; try simp only [Act.put, List.setIfInBounds_toArray, List.set_cons_zero, List.set_cons_succ])))
  refine' hold_sole ?_ ?_ (fun J hJ => ?_)
  rotate_left 1
  · simp only [List.getElem?_toArray, List.getElem?_cons_zero, List.getElem?_cons_succ]; exact rfl
  · exact rfl
  go_simp
  refine (HFx.out _ hKd.low2).mono ?_
  rintro e w21 ⟨v21, ys21, rfl, hy21, ho21, hb21⟩
  obtain ⟨fa21, fc21, rfl⟩ := owned_form ho21
  rw [show ys21.length = nx from by rw [hy21.out, HNx.out]]
  have hK21 : KeptR W.heap.size W w21 := hKd.trans (KeptR.of_below hb21)
  refine hJ _ _ hK21 ?_
  clear hJ J hb21 ho21 hy21
  try simp only [Act.put, List.setIfInBounds_toArray, List.set_cons_zero, List.set_cons_succ]
  repeat (first
      | (refine' hold_skip ?_ ?_ ?_
         rotate_left 1
         · simp only [List.getElem?_toArray, List.getElem?_cons_zero, List.getElem?_cons_succ]; exact rfl
         · exact rfl
         simp only [Act.put, List.setIfInBounds_toArray, List.set_cons_zero, List.set_cons_succ])
      | (refine' hold_want ?_ ?_ (fun J hJ => ?_)
         rotate_left 1
         · simp only [List.getElem?_toArray, List.getElem?_cons_zero, List.getElem?_cons_succ]; exact rfl
         · exact rfl
         first
         | (refine quiet_load_refval _ rfl w.heap.size 0 _ rfl (fun w' ⟨L, hL⟩ => hL ▸ HV1.out _ L.ok.low2) ?_; refine hJ _ ?_; clear hJ J; try simp only [Act.put, List.setIfInBounds_toArray, List.set_cons_zero, List.set_cons_succ])
         | (refine quiet_load_refval _ rfl (w.heap.size + 1) 0 _ rfl (fun w' ⟨L, hL⟩ => hL ▸ HV2.out _ L.ok.low2) ?_; refine hJ _ ?_; clear hJ J; try simp only [Act.put, List.setIfInBounds_toArray, List.set_cons_zero, List.set_cons_succ])
         | (refine quiet_extract _ _ rfl _ _ rfl rfl ?_; refine hJ _ ?_; clear hJ J; try simp only [Act.put, List.setIfInBounds_toArray, List.set_cons_zero, List.set_cons_succ])
         | (go_big_quiet_op; refine hJ _ ?_; clear hJ J; try simp only [Act.put, List.setIfInBounds_toArray, List.set_cons_zero, List.set_cons_succ])))
  refine' hold_sole ?_ ?_ (fun J hJ => ?_)
  rotate_left 1
  · simp only [List.getElem?_toArray, List.getElem?_cons_zero, List.getElem?_cons_succ]; exact rfl
  · exact rfl
  go_simp
  refine (HFy.out _ hK21.low2).mono ?_
  rintro e w22 ⟨v22, ys22, rfl, hy22, ho22, hb22⟩
  obtain ⟨fa22, fc22, rfl⟩ := owned_form ho22
  rw [show ys22.length = ny from by rw [hy22.out, HNy.out]]
  have hK22 : KeptR W.heap.size W w22 := hK21.trans (KeptR.of_below hb22)
  refine hJ _ _ hK22 ?_
  clear hJ J hb22 ho22 hy22
  try simp only [Act.put, List.setIfInBounds_toArray, List.set_cons_zero, List.set_cons_succ]
  repeat (first
      | (refine' hold_skip ?_ ?_ ?_
         rotate_left 1
         · simp only [List.getElem?_toArray, List.getElem?_cons_zero, List.getElem?_cons_succ]; exact rfl
         · exact rfl
         simp only [Act.put, List.setIfInBounds_toArray, List.set_cons_zero, List.set_cons_succ])
      | (refine' hold_want ?_ ?_ (fun J hJ => ?_)
         rotate_left 1
         · simp only [List.getElem?_toArray, List.getElem?_cons_zero, List.getElem?_cons_succ]; exact rfl
         · exact rfl
         first
         | (refine quiet_load_refval _ rfl w.heap.size 0 _ rfl (fun w' ⟨L, hL⟩ => hL ▸ HV1.out _ L.ok.low2) ?_; refine hJ _ ?_; clear hJ J; try simp only [Act.put, List.setIfInBounds_toArray, List.set_cons_zero, List.set_cons_succ])
         | (refine quiet_load_refval _ rfl (w.heap.size + 1) 0 _ rfl (fun w' ⟨L, hL⟩ => hL ▸ HV2.out _ L.ok.low2) ?_; refine hJ _ ?_; clear hJ J; try simp only [Act.put, List.setIfInBounds_toArray, List.set_cons_zero, List.set_cons_succ])
         | (refine quiet_extract _ _ rfl _ _ rfl rfl ?_; refine hJ _ ?_; clear hJ J; try simp only [Act.put, List.setIfInBounds_toArray, List.set_cons_zero, List.set_cons_succ])
         | (go_big_quiet_op; refine hJ _ ?_; clear hJ J; try simp only [Act.put, List.setIfInBounds_toArray, List.set_cons_zero, List.set_cons_succ])))
  refine hold_done ?_
  obtain ⟨w1, rfl⟩ : ∃ w1, w1 = w22 := ⟨_, rfl⟩
  have Hb1 := Lib.hid hK22.low2
  have p0 := HP.out.1 _ Hb1.out
  have q0 := HP.out.2.1 _ Hb1.out
  have p1 := HP.out.2.2.1 _ Hb1.out
  have q1 := HP.out.2.2.2 _ Hb1.out
  by_cases hA : ny < nx
  · have d1 : decide ((ny : Int) < nx) = true := by simp; omega
    have d2 : decide ((nx : Int) > ny) = true := d1
    have HR := Lib.hid (HO.out.1 hA)
    go_wp2_with fail
    go_ret
    exact ⟨congrArg (fun z => Ending.returned (.int .i64 z)) HR.out.symm, HbW.out.trans (Hb1.out.mono HbW.out.size)⟩
  have d1 : decide ((ny : Int) < nx) = false := by simp; omega
  have d2 : decide ((nx : Int) > ny) = false := d1
  by_cases hB : nx < ny
  · have d3 : decide ((nx : Int) < ny) = true := by simp; omega
    have HR := Lib.hid (HO.out.2.1 hB)
    go_wp2_with fail
    go_ret
    exact ⟨congrArg (fun z => Ending.returned (.int .i64 z)) HR.out.symm, HbW.out.trans (Hb1.out.mono HbW.out.size)⟩
  have d3 : decide ((nx : Int) < ny) = false := by simp; omega
  have HL := Lib.hid (HO.out.2.2 (by omega))
  by_cases hk : kx = ky
  rotate_left 1
  · have e3 : (kx != ky) = true := by simp [hk]
    have HR : Hid ((if decide (kx < ky) = true then (-1 : Int) else 1) = O) := Lib.hid (by rw [HL.out, HPK.out hk]; exact sign_cmp hk)
    generalize hgd : decide (kx < ky) = gd at HR
    clear hk
    cases gd
    all_goals
      go_wp2_with fail
      refine (sign_any _ _).mono ?_
      rintro e wz ⟨rfl, hbz⟩
      have Hz := Lib.hid (bt3 Hb1.out hbz)
      clear hbz
      go_wp2_with fail
      go_ret
      exact ⟨congrArg (fun z => Ending.returned (.int .i64 z)) HR.out, HbW.out.trans (Hz.out.mono HbW.out.size)⟩
  have e3 : (kx != ky) = false := by simp [hk]
  by_cases hk2 : kx = 2
  · have e4 : (kx == 2) = true := by simp [hk2]
    by_cases hz : zx = zy
    · have e5 : ((zx : Int) != (zy : Int)) = false := by simp [hz]
      have e6 : (zx != zy) = false := by simp [hz]
      have HRes : Hid (O = ordL lx ly) := Lib.hid (by rw [HL.out, HPS.out hk (fun _ => hz)])
      clear hk2 hk
      go_upto_region 10 with fail
      clear hz hA hB
      obtain ⟨wd, hwd⟩ : ∃ wd, wd = w1.drew := ⟨_, rfl⟩
      have hBd : Below w1.heap.size w1 wd := by rw [hwd]; exact (Below.refl _ _).drew
      have hKd : KeptR w1.heap.size w1 wd := KeptR.of_below hBd
      have hNE : Nonempty (HeldW (KeptR w1.heap.size w1)) := ⟨⟨wd, hKd⟩⟩
      refine wp_region_hold (KeptR w1.heap.size w1) (.plain 0 (.plain 2 (.sole 1 (.sole 3 (.plain 4 (.plain 5 .done)))))) (by rw [← hwd]; exact hKd) (by kernel_rfl) (by kernel_rfl) (fun c a d v w h => by cases d <;> exact h) ?_
      rw [← hwd]
      clear hwd
      repeat (first
          | (refine' hold_skip ?_ ?_ ?_
             rotate_left 1
             · simp only [List.getElem?_toArray, List.getElem?_cons_zero, List.getElem?_cons_succ]; exact rfl
             · exact rfl
             simp only [Act.put, List.setIfInBounds_toArray, List.set_cons_zero, List.set_cons_succ])
          | (refine' hold_want ?_ ?_ (fun J hJ => ?_)
             rotate_left 1
             · simp only [List.getElem?_toArray, List.getElem?_cons_zero, List.getElem?_cons_succ]; exact rfl
             · exact rfl
             first
             | (refine quiet_load_refval _ rfl w.heap.size 0 _ rfl (fun w' ⟨L, hL⟩ => hL ▸ HV1.out _ (bt3 Hb1.out L.ok.low2)) ?_; refine hJ _ ?_; clear hJ J; try simp only [Act.put, List.setIfInBounds_toArray, List.set_cons_zero, List.set_cons_succ])
             | (refine quiet_load_refval _ rfl (w.heap.size + 1) 0 _ rfl (fun w' ⟨L, hL⟩ => hL ▸ HV2.out _ (bt3 Hb1.out L.ok.low2)) ?_; refine hJ _ ?_; clear hJ J; try simp only [Act.put, List.setIfInBounds_toArray, List.set_cons_zero, List.set_cons_succ])
             | (refine quiet_extract _ _ rfl _ _ rfl rfl ?_; refine hJ _ ?_; clear hJ J; try simp only [Act.put, List.setIfInBounds_toArray, List.set_cons_zero, List.set_cons_succ])
             | (go_big_quiet_op; refine hJ _ ?_; clear hJ J; try simp only [Act.put, List.setIfInBounds_toArray, List.set_cons_zero, List.set_cons_succ])))
      refine' hold_sole ?_ ?_ (fun J hJ => ?_)
      rotate_left 1
      · simp only [List.getElem?_toArray, List.getElem?_cons_zero, List.getElem?_cons_succ]; exact rfl
      · exact rfl
      go_simp
      refine (HCx.out _ (bt3 Hb1.out hKd.low2)).mono ?_
      rintro e w23 ⟨v23, rfl, hv23, hb23⟩
      have hK23 : KeptR w1.heap.size w1 w23 := hKd.trans (KeptR.of_below hb23)
      refine hJ _ _ hK23 ?_
      clear hJ J hb23
      try simp only [Act.put, List.setIfInBounds_toArray, List.set_cons_zero, List.set_cons_succ]
      refine' hold_sole ?_ ?_ (fun J hJ => ?_)
      rotate_left 1
      · simp only [List.getElem?_toArray, List.getElem?_cons_zero, List.getElem?_cons_succ]; exact rfl
      · exact rfl
      go_simp
      refine (HCy.out _ (bt3 Hb1.out hK23.low2)).mono ?_
      rintro e w24 ⟨v24, rfl, hv24, hb24⟩
      have hK24 : KeptR w1.heap.size w1 w24 := hK23.trans (KeptR.of_below hb24)
      refine hJ _ _ hK24 ?_
      clear hJ J hb24
      try simp only [Act.put, List.setIfInBounds_toArray, List.set_cons_zero, List.set_cons_succ]
      repeat (first
          | (refine' hold_skip ?_ ?_ ?_
             rotate_left 1
             · simp only [List.getElem?_toArray, List.getElem?_cons_zero, List.getElem?_cons_succ]; exact rfl
             · exact rfl
             simp only [Act.put, List.setIfInBounds_toArray, List.set_cons_zero, List.set_cons_succ])
          | (refine' hold_want ?_ ?_ (fun J hJ => ?_)
             rotate_left 1
             · simp only [List.getElem?_toArray, List.getElem?_cons_zero, List.getElem?_cons_succ]; exact rfl
             · exact rfl
             first
             | (refine quiet_load_refval _ rfl w.heap.size 0 _ rfl (fun w' ⟨L, hL⟩ => hL ▸ HV1.out _ (bt3 Hb1.out L.ok.low2)) ?_; refine hJ _ ?_; clear hJ J; try simp only [Act.put, List.setIfInBounds_toArray, List.set_cons_zero, List.set_cons_succ])
             | (refine quiet_load_refval _ rfl (w.heap.size + 1) 0 _ rfl (fun w' ⟨L, hL⟩ => hL ▸ HV2.out _ (bt3 Hb1.out L.ok.low2)) ?_; refine hJ _ ?_; clear hJ J; try simp only [Act.put, List.setIfInBounds_toArray, List.set_cons_zero, List.set_cons_succ])
             | (refine quiet_extract _ _ rfl _ _ rfl rfl ?_; refine hJ _ ?_; clear hJ J; try simp only [Act.put, List.setIfInBounds_toArray, List.set_cons_zero, List.set_cons_succ])
             | (go_big_quiet_op; refine hJ _ ?_; clear hJ J; try simp only [Act.put, List.setIfInBounds_toArray, List.set_cons_zero, List.set_cons_succ])))
      refine hold_done ?_
      obtain ⟨w10, rfl⟩ : ∃ w10, w10 = w24 := ⟨_, rfl⟩
      have Hb10 := Lib.hid (bt3 Hb1.out hK24.low2)
      have hla := hv23 _ (HA1.out _ Hb10.out)
      have hlb := hv24 _ (HA2.out _ Hb10.out)
      obtain ⟨a3, c3, rfl, hm3, hl3⟩ := hla
      obtain ⟨a4, c4, rfl, hm4, hl4⟩ := hlb
      obtain ⟨n1, hn1⟩ : ∃ n1, n1 = lx.length := ⟨_, rfl⟩
      obtain ⟨n2, hn2⟩ : ∃ n2, n2 = ly.length := ⟨_, rfl⟩
      rw [← hn1] at hl3 hm3
      rw [← hn2] at hl4 hm4
      rw [← hn1, ← hn2]
      have hi1 : (n1 : Int) ≤ 9223372036854775807 := by unfold maxLen at hm3; omega
      have hi2 : (n2 : Int) ≤ 9223372036854775807 := by unfold maxLen at hm4; omega
      have Hl3 := Lib.hid hl3
      have Hl4 := Lib.hid hl4
      have HN := Lib.hid (And.intro hn1 hn2)
      clear hl3 hl4 hm3 hm4 hn1 hn2 hv23 hv24
      go_wp2_with fail
      go_loopw [9] (fun i wr => ∃ j : Nat, i = .int .i64 j ∧ Hid (j ≤ n1 ∧ j ≤ n2 ∧ ordL lx ly = ordL (lx.drop j) (ly.drop j)) ∧ Hid (Below w10.heap.size w10 wr)) (fun i _ => n1 - (intOf i).toNat)
      case atStart => exact ⟨0, rfl, Lib.hid ⟨Nat.zero_le _, Nat.zero_le _, rfl⟩, Lib.hid (Below.refl _ _)⟩
      case round =>
        obtain ⟨j, rfl, hj, hB⟩ := hrel
        have HBr := Lib.hid (bt3 Hb10.out hB.out)
        by_cases hj1 : j < n1
        · have hd1 : decide ((j : Int) < n1) = true := by simp; omega
          by_cases hj2 : j < n2
          · have hd2 : decide ((j : Int) < n2) = true := by simp; omega
            have hjl : j < lx.length := by have := HN.out.1; omega
            have hjm : j < ly.length := by have := HN.out.2; omega
            obtain ⟨b1, off1, rfl, hcp1, hbw1, hvs1⟩ := Hl3.out.resolve_left (by omega)
            obtain ⟨b2, off2, rfl, hcp2, hbw2, hvs2⟩ := Hl4.out.resolve_left (by omega)
            have hcapI1 : (n1 : Int) ≤ c3 := by omega
            have hcapI2 : (n2 : Int) ≤ c4 := by omega
            obtain ⟨d1, hcc1, hat1⟩ := vals_get _ b1 lx off1 hvs1 j hjl
            obtain ⟨d2, hcc2, hat2⟩ := vals_get _ b2 ly off2 hvs2 j hjm
            have HW1 := Lib.hid (fun w' (h : Below wr.heap.size wr w') => Val3.below hcc1 hbw1 (bt3 hB.out h))
            have HW2 := Lib.hid (fun w' (h : Below wr.heap.size wr w') => Val3.below hcc2 hbw2 (bt3 hB.out h))
            have hsm := HSm.out lx[j] (List.getElem_mem hjl) ly[j] (List.getElem_mem hjm)
            have HC := Lib.hid (fun w' (h : Below wr.heap.size wr w') => HX.out lx[j] (List.getElem_mem hjl) ly[j] d1 d2 w' hsm.1 hsm.2 (at3 hat1 (bt3 hB.out h)) (at3 hat2 (bt3 hB.out h)))
            have hst : ordL (lx.drop j) (ly.drop j) = orI (ord lx[j] ly[j]) (ordL (lx.drop (j + 1)) (ly.drop (j + 1))) := by rw [List.drop_eq_getElem_cons hjl, List.drop_eq_getElem_cons hjm, ordL_cons]
            generalize ord lx[j] ly[j] = o2 at HC hst
            have Hst := Lib.hid hst
            clear hst hsm hat1 hat2 hcc1 hcc2 hvs1 hvs2 hbw1 hbw2 hcp1 hcp2 hjl hjm
            by_cases ho : o2 = 0
            · subst ho
              go_upto_region 14 with fail
              refine wp_region_later (W0 := wr) (Below.refl _ _) (by kernel_rfl) (by as_aux_lemma => kernel_rfl) ?_
              go_big_quiet_step (exact rfl)
              go_big_quiet_step (exact rfl)
              go_big_quiet_step (exact rfl)
              (go_big_quiet_want; refine quiet_load_refval _ rfl b1 (off1 + j * 3) d1 rfl (fun w' hw' => by obtain ⟨L1, rfl⟩ := hw'; exact HW1.out _ L1.ok) ?_; go_big_quiet_on; try simp only [Act.put, List.setIfInBounds_toArray, List.set_cons_zero, List.set_cons_succ])
              go_big_quiet_step (exact rfl)
              go_big_quiet_step (exact rfl)
              go_big_quiet_step (exact rfl)
              (go_big_quiet_want; refine quiet_load_refval _ rfl b2 (off2 + j * 3) d2 rfl (fun w' hw' => by obtain ⟨L1, rfl⟩ := hw'; exact HW2.out _ L1.ok) ?_; go_big_quiet_on; try simp only [Act.put, List.setIfInBounds_toArray, List.set_cons_zero, List.set_cons_succ])
              go_big_quiet_step (exact Later.calls (HC.out _ (Later.ok _)))
              go_big_quiet_step (exact rfl)
              refine wpQuiet_nil ?_
              intro w' hw'
              obtain ⟨L', rfl⟩ := hw'
              go_step
              go_step
              go_wp2_with fail
              go_roundw
              case rel => exact ⟨j + 1, by go_num, Lib.hid ⟨by omega, by omega, by rw [hj.out.2.2, Hst.out, orI_zero]⟩, Lib.hid (bt3 hB.out L'.ok)⟩
              case measure => simp [intOf]; omega
            · have e2 : (o2 != 0) = true := by simp [ho]
              have HR : Hid (ordL lx ly = o2) := Lib.hid (by rw [hj.out.2.2, Hst.out, orI_ne ho])
              clear ho
              go_upto_region 14 with fail
              refine wp_region_later (W0 := wr) (Below.refl _ _) (by kernel_rfl) (by as_aux_lemma => kernel_rfl) ?_
              go_big_quiet_step (exact rfl)
              go_big_quiet_step (exact rfl)
              go_big_quiet_step (exact rfl)
              (go_big_quiet_want; refine quiet_load_refval _ rfl b1 (off1 + j * 3) d1 rfl (fun w' hw' => by obtain ⟨L1, rfl⟩ := hw'; exact HW1.out _ L1.ok) ?_; go_big_quiet_on; try simp only [Act.put, List.setIfInBounds_toArray, List.set_cons_zero, List.set_cons_succ])
              go_big_quiet_step (exact rfl)
              go_big_quiet_step (exact rfl)
              go_big_quiet_step (exact rfl)
              (go_big_quiet_want; refine quiet_load_refval _ rfl b2 (off2 + j * 3) d2 rfl (fun w' hw' => by obtain ⟨L1, rfl⟩ := hw'; exact HW2.out _ L1.ok) ?_; go_big_quiet_on; try simp only [Act.put, List.setIfInBounds_toArray, List.set_cons_zero, List.set_cons_succ])
              go_big_quiet_step (exact Later.calls (HC.out _ (Later.ok _)))
              go_big_quiet_step (exact rfl)
              refine wpQuiet_nil ?_
              intro w' hw'
              obtain ⟨L', rfl⟩ := hw'
              go_step
              go_step
              go_wp2_with fail
              go_ret
              exact ⟨congrArg (fun z => Ending.returned (.int .i64 z)) (HR.out.symm.trans HRes.out.symm), HbW.out.trans ((bt3 HBr.out L'.ok).mono HbW.out.size)⟩
          · have hd2 : decide ((j : Int) < n2) = false := by simp; omega
            have HR : Hid (ordL lx ly = cmpI n2 n1) := Lib.hid (by
              rw [hj.out.2.2, ordL_short (by rw [List.drop_eq_nil_iff, List.drop_eq_nil_iff]; have h1 := HN.out; omega), List.length_drop, List.length_drop]
              have h1 := HN.out
              have h2 := hj.out
              unfold cmpI
              split <;> split <;> (try split) <;> (try split) <;> omega)
            by_cases hnn : n1 = n2
            · have e3 : ((n1 : Int) != (n2 : Int)) = false := by simp [hnn]
              have e4 : (n1 != n2) = false := by simp [hnn]
              have HR2 : Hid (ordL lx ly = 0) := Lib.hid (by rw [HR.out, hnn, cmpI_self])
              clear HR
              go_wp2_with fail
              go_ret
              exact ⟨congrArg (fun z => Ending.returned (.int .i64 z)) (HR2.out.symm.trans HRes.out.symm), HbW.out.trans (HBr.out.mono HbW.out.size)⟩
            · have e3 : ((n1 : Int) != (n2 : Int)) = true := by simp; omega
              have e4 : (n1 != n2) = true := by simp [hnn]
              have HR2 : Hid ((if decide ((n2 : Int) < (n1 : Int)) = true then (-1 : Int) else 1) = ordL lx ly) := Lib.hid (by rw [HR.out]; exact sign_cmp (by omega))
              generalize hgd : decide ((n2 : Int) < (n1 : Int)) = gd at HR2
              have hgd2 : decide ((n1 : Int) > (n2 : Int)) = gd := hgd
              have hgd3 : decide (n2 < n1) = gd := by rw [← hgd]; simp
              clear HR
              cases gd
              all_goals
                go_wp2_with fail
                refine (sign_any _ _).mono ?_
                rintro e wz ⟨rfl, hbz⟩
                have Hz := Lib.hid (bt3 HBr.out hbz)
                clear hbz
                go_wp2_with fail
                go_ret
                exact ⟨congrArg (fun z => Ending.returned (.int .i64 z)) (HR2.out.trans HRes.out.symm), HbW.out.trans (Hz.out.mono HbW.out.size)⟩
        · have hd1 : decide ((j : Int) < n1) = false := by simp; omega
          have HR : Hid (ordL lx ly = cmpI n2 n1) := Lib.hid (by
            rw [hj.out.2.2, ordL_short (by rw [List.drop_eq_nil_iff, List.drop_eq_nil_iff]; have h1 := HN.out; omega), List.length_drop, List.length_drop]
            have h1 := HN.out
            have h2 := hj.out
            unfold cmpI
            split <;> split <;> (try split) <;> (try split) <;> omega)
          by_cases hnn : n1 = n2
          · have e3 : ((n1 : Int) != (n2 : Int)) = false := by simp [hnn]
            have e4 : (n1 != n2) = false := by simp [hnn]
            have HR2 : Hid (ordL lx ly = 0) := Lib.hid (by rw [HR.out, hnn, cmpI_self])
            clear HR
            go_wp2_with fail
            go_ret
            exact ⟨congrArg (fun z => Ending.returned (.int .i64 z)) (HR2.out.symm.trans HRes.out.symm), HbW.out.trans (HBr.out.mono HbW.out.size)⟩
          · have e3 : ((n1 : Int) != (n2 : Int)) = true := by simp; omega
            have e4 : (n1 != n2) = true := by simp [hnn]
            have HR2 : Hid ((if decide ((n2 : Int) < (n1 : Int)) = true then (-1 : Int) else 1) = ordL lx ly) := Lib.hid (by rw [HR.out]; exact sign_cmp (by omega))
            generalize hgd : decide ((n2 : Int) < (n1 : Int)) = gd at HR2
            have hgd2 : decide ((n1 : Int) > (n2 : Int)) = gd := hgd
            have hgd3 : decide (n2 < n1) = gd := by rw [← hgd]; simp
            clear HR
            cases gd
            all_goals
              go_wp2_with fail
              refine (sign_any _ _).mono ?_
              rintro e wz ⟨rfl, hbz⟩
              have Hz := Lib.hid (bt3 HBr.out hbz)
              clear hbz
              go_wp2_with fail
              go_ret
              exact ⟨congrArg (fun z => Ending.returned (.int .i64 z)) (HR2.out.trans HRes.out.symm), HbW.out.trans (Hz.out.mono HbW.out.size)⟩
    · have e5 : ((zx : Int) != (zy : Int)) = true := by simp; omega
      have e6 : (zx != zy) = true := by simp [hz]
      have HR : Hid ((if decide ((zx : Int) < (zy : Int)) = true then (-1 : Int) else 1) = O) := Lib.hid (by rw [HL.out, HPB.out hk hk2]; exact sign_cmp (by omega))
      generalize hgd : decide ((zx : Int) < (zy : Int)) = gd at HR
      have hgd3 : decide (zx < zy) = gd := by rw [← hgd]; simp
      clear hk hk2
      cases gd
      all_goals
        go_wp2_with fail
        refine (sign_any _ _).mono ?_
        rintro e wz ⟨rfl, hbz⟩
        have Hz := Lib.hid (bt3 Hb1.out hbz)
        clear hbz
        go_wp2_with fail
        go_ret
        exact ⟨congrArg (fun z => Ending.returned (.int .i64 z)) HR.out, HbW.out.trans (Hz.out.mono HbW.out.size)⟩
  · have e4 : (kx == 2) = false := by simp [hk2]
    have HRes : Hid (O = ordL lx ly) := Lib.hid (by rw [HL.out, HPS.out hk (fun h => absurd h hk2)])
    clear hk2 hk
    go_upto_region 10 with fail
    clear hA hB
    obtain ⟨wd, hwd⟩ : ∃ wd, wd = w1.drew := ⟨_, rfl⟩
    have hBd : Below w1.heap.size w1 wd := by rw [hwd]; exact (Below.refl _ _).drew
    have hKd : KeptR w1.heap.size w1 wd := KeptR.of_below hBd
    have hNE : Nonempty (HeldW (KeptR w1.heap.size w1)) := ⟨⟨wd, hKd⟩⟩
    refine wp_region_hold (KeptR w1.heap.size w1) (.plain 0 (.plain 2 (.sole 1 (.sole 3 (.plain 4 (.plain 5 .done)))))) (by rw [← hwd]; exact hKd) (by kernel_rfl) (by kernel_rfl) (fun c a d v w h => by cases d <;> exact h) ?_
    rw [← hwd]
    clear hwd
    repeat (first
        | (refine' hold_skip ?_ ?_ ?_
           rotate_left 1
           · simp only [List.getElem?_toArray, List.getElem?_cons_zero, List.getElem?_cons_succ]; exact rfl
           · exact rfl
           simp only [Act.put, List.setIfInBounds_toArray, List.set_cons_zero, List.set_cons_succ])
        | (refine' hold_want ?_ ?_ (fun J hJ => ?_)
           rotate_left 1
           · simp only [List.getElem?_toArray, List.getElem?_cons_zero, List.getElem?_cons_succ]; exact rfl
           · exact rfl
           first
           | (refine quiet_load_refval _ rfl w.heap.size 0 _ rfl (fun w' ⟨L, hL⟩ => hL ▸ HV1.out _ (bt3 Hb1.out L.ok.low2)) ?_; refine hJ _ ?_; clear hJ J; try simp only [Act.put, List.setIfInBounds_toArray, List.set_cons_zero, List.set_cons_succ])
           | (refine quiet_load_refval _ rfl (w.heap.size + 1) 0 _ rfl (fun w' ⟨L, hL⟩ => hL ▸ HV2.out _ (bt3 Hb1.out L.ok.low2)) ?_; refine hJ _ ?_; clear hJ J; try simp only [Act.put, List.setIfInBounds_toArray, List.set_cons_zero, List.set_cons_succ])
           | (refine quiet_extract _ _ rfl _ _ rfl rfl ?_; refine hJ _ ?_; clear hJ J; try simp only [Act.put, List.setIfInBounds_toArray, List.set_cons_zero, List.set_cons_succ])
           | (go_big_quiet_op; refine hJ _ ?_; clear hJ J; try simp only [Act.put, List.setIfInBounds_toArray, List.set_cons_zero, List.set_cons_succ])))
    refine' hold_sole ?_ ?_ (fun J hJ => ?_)
    rotate_left 1
    · simp only [List.getElem?_toArray, List.getElem?_cons_zero, List.getElem?_cons_succ]; exact rfl
    · exact rfl
    go_simp
    refine (HCx.out _ (bt3 Hb1.out hKd.low2)).mono ?_
    rintro e w25 ⟨v25, rfl, hv25, hb25⟩
    have hK25 : KeptR w1.heap.size w1 w25 := hKd.trans (KeptR.of_below hb25)
    refine hJ _ _ hK25 ?_
    clear hJ J hb25
    try simp only [Act.put, List.setIfInBounds_toArray, List.set_cons_zero, List.set_cons_succ]
    refine' hold_sole ?_ ?_ (fun J hJ => ?_)
    rotate_left 1
    · simp only [List.getElem?_toArray, List.getElem?_cons_zero, List.getElem?_cons_succ]; exact rfl
    · exact rfl
    go_simp
    refine (HCy.out _ (bt3 Hb1.out hK25.low2)).mono ?_
    rintro e w26 ⟨v26, rfl, hv26, hb26⟩
    have hK26 : KeptR w1.heap.size w1 w26 := hK25.trans (KeptR.of_below hb26)
    refine hJ _ _ hK26 ?_
    clear hJ J hb26
    try simp only [Act.put, List.setIfInBounds_toArray, List.set_cons_zero, List.set_cons_succ]
    repeat (first
        | (refine' hold_skip ?_ ?_ ?_
           rotate_left 1
           · simp only [List.getElem?_toArray, List.getElem?_cons_zero, List.getElem?_cons_succ]; exact rfl
           · exact rfl
           simp only [Act.put, List.setIfInBounds_toArray, List.set_cons_zero, List.set_cons_succ])
        | (refine' hold_want ?_ ?_ (fun J hJ => ?_)
           rotate_left 1
           · simp only [List.getElem?_toArray, List.getElem?_cons_zero, List.getElem?_cons_succ]; exact rfl
           · exact rfl
           first
           | (refine quiet_load_refval _ rfl w.heap.size 0 _ rfl (fun w' ⟨L, hL⟩ => hL ▸ HV1.out _ (bt3 Hb1.out L.ok.low2)) ?_; refine hJ _ ?_; clear hJ J; try simp only [Act.put, List.setIfInBounds_toArray, List.set_cons_zero, List.set_cons_succ])
           | (refine quiet_load_refval _ rfl (w.heap.size + 1) 0 _ rfl (fun w' ⟨L, hL⟩ => hL ▸ HV2.out _ (bt3 Hb1.out L.ok.low2)) ?_; refine hJ _ ?_; clear hJ J; try simp only [Act.put, List.setIfInBounds_toArray, List.set_cons_zero, List.set_cons_succ])
           | (refine quiet_extract _ _ rfl _ _ rfl rfl ?_; refine hJ _ ?_; clear hJ J; try simp only [Act.put, List.setIfInBounds_toArray, List.set_cons_zero, List.set_cons_succ])
           | (go_big_quiet_op; refine hJ _ ?_; clear hJ J; try simp only [Act.put, List.setIfInBounds_toArray, List.set_cons_zero, List.set_cons_succ])))
    refine hold_done ?_
    obtain ⟨w10, rfl⟩ : ∃ w10, w10 = w26 := ⟨_, rfl⟩
    have Hb10 := Lib.hid (bt3 Hb1.out hK26.low2)
    have hla := hv25 _ (HA1.out _ Hb10.out)
    have hlb := hv26 _ (HA2.out _ Hb10.out)
    obtain ⟨a3, c3, rfl, hm3, hl3⟩ := hla
    obtain ⟨a4, c4, rfl, hm4, hl4⟩ := hlb
    obtain ⟨n1, hn1⟩ : ∃ n1, n1 = lx.length := ⟨_, rfl⟩
    obtain ⟨n2, hn2⟩ : ∃ n2, n2 = ly.length := ⟨_, rfl⟩
    rw [← hn1] at hl3 hm3
    rw [← hn2] at hl4 hm4
    rw [← hn1, ← hn2]
    have hi1 : (n1 : Int) ≤ 9223372036854775807 := by unfold maxLen at hm3; omega
    have hi2 : (n2 : Int) ≤ 9223372036854775807 := by unfold maxLen at hm4; omega
    have Hl3 := Lib.hid hl3
    have Hl4 := Lib.hid hl4
    have HN := Lib.hid (And.intro hn1 hn2)
    clear hl3 hl4 hm3 hm4 hn1 hn2 hv25 hv26
    go_wp2_with fail
    go_loopw [9] (fun i wr => ∃ j : Nat, i = .int .i64 j ∧ Hid (j ≤ n1 ∧ j ≤ n2 ∧ ordL lx ly = ordL (lx.drop j) (ly.drop j)) ∧ Hid (Below w10.heap.size w10 wr)) (fun i _ => n1 - (intOf i).toNat)
    case atStart => exact ⟨0, rfl, Lib.hid ⟨Nat.zero_le _, Nat.zero_le _, rfl⟩, Lib.hid (Below.refl _ _)⟩
    case round =>
      obtain ⟨j, rfl, hj, hB⟩ := hrel
      have HBr := Lib.hid (bt3 Hb10.out hB.out)
      by_cases hj1 : j < n1
      · have hd1 : decide ((j : Int) < n1) = true := by simp; omega
        by_cases hj2 : j < n2
        · have hd2 : decide ((j : Int) < n2) = true := by simp; omega
          have hjl : j < lx.length := by have := HN.out.1; omega
          have hjm : j < ly.length := by have := HN.out.2; omega
          obtain ⟨b1, off1, rfl, hcp1, hbw1, hvs1⟩ := Hl3.out.resolve_left (by omega)
          obtain ⟨b2, off2, rfl, hcp2, hbw2, hvs2⟩ := Hl4.out.resolve_left (by omega)
          have hcapI1 : (n1 : Int) ≤ c3 := by omega
          have hcapI2 : (n2 : Int) ≤ c4 := by omega
          obtain ⟨d1, hcc1, hat1⟩ := vals_get _ b1 lx off1 hvs1 j hjl
          obtain ⟨d2, hcc2, hat2⟩ := vals_get _ b2 ly off2 hvs2 j hjm
          have HW1 := Lib.hid (fun w' (h : Below wr.heap.size wr w') => Val3.below hcc1 hbw1 (bt3 hB.out h))
          have HW2 := Lib.hid (fun w' (h : Below wr.heap.size wr w') => Val3.below hcc2 hbw2 (bt3 hB.out h))
          have hsm := HSm.out lx[j] (List.getElem_mem hjl) ly[j] (List.getElem_mem hjm)
          have HC := Lib.hid (fun w' (h : Below wr.heap.size wr w') => HX.out lx[j] (List.getElem_mem hjl) ly[j] d1 d2 w' hsm.1 hsm.2 (at3 hat1 (bt3 hB.out h)) (at3 hat2 (bt3 hB.out h)))
          have hst : ordL (lx.drop j) (ly.drop j) = orI (ord lx[j] ly[j]) (ordL (lx.drop (j + 1)) (ly.drop (j + 1))) := by rw [List.drop_eq_getElem_cons hjl, List.drop_eq_getElem_cons hjm, ordL_cons]
          generalize ord lx[j] ly[j] = o2 at HC hst
          have Hst := Lib.hid hst
          clear hst hsm hat1 hat2 hcc1 hcc2 hvs1 hvs2 hbw1 hbw2 hcp1 hcp2 hjl hjm
          by_cases ho : o2 = 0
          · subst ho
            go_upto_region 14 with fail
            refine wp_region_later (W0 := wr) (Below.refl _ _) (by kernel_rfl) (by as_aux_lemma => kernel_rfl) ?_
            go_big_quiet_step (exact rfl)
            go_big_quiet_step (exact rfl)
            go_big_quiet_step (exact rfl)
            (go_big_quiet_want; refine quiet_load_refval _ rfl b1 (off1 + j * 3) d1 rfl (fun w' hw' => by obtain ⟨L1, rfl⟩ := hw'; exact HW1.out _ L1.ok) ?_; go_big_quiet_on; try simp only [Act.put, List.setIfInBounds_toArray, List.set_cons_zero, List.set_cons_succ])
            go_big_quiet_step (exact rfl)
            go_big_quiet_step (exact rfl)
            go_big_quiet_step (exact rfl)
            (go_big_quiet_want; refine quiet_load_refval _ rfl b2 (off2 + j * 3) d2 rfl (fun w' hw' => by obtain ⟨L1, rfl⟩ := hw'; exact HW2.out _ L1.ok) ?_; go_big_quiet_on; try simp only [Act.put, List.setIfInBounds_toArray, List.set_cons_zero, List.set_cons_succ])
            go_big_quiet_step (exact Later.calls (HC.out _ (Later.ok _)))
            go_big_quiet_step (exact rfl)
            refine wpQuiet_nil ?_
            intro w' hw'
            obtain ⟨L', rfl⟩ := hw'
            go_step
            go_step
            go_wp2_with fail
            go_roundw
            case rel => exact ⟨j + 1, by go_num, Lib.hid ⟨by omega, by omega, by rw [hj.out.2.2, Hst.out, orI_zero]⟩, Lib.hid (bt3 hB.out L'.ok)⟩
            case measure => simp [intOf]; omega
          · have e2 : (o2 != 0) = true := by simp [ho]
            have HR : Hid (ordL lx ly = o2) := Lib.hid (by rw [hj.out.2.2, Hst.out, orI_ne ho])
            clear ho
            go_upto_region 14 with fail
            refine wp_region_later (W0 := wr) (Below.refl _ _) (by kernel_rfl) (by as_aux_lemma => kernel_rfl) ?_
            go_big_quiet_step (exact rfl)
            go_big_quiet_step (exact rfl)
            go_big_quiet_step (exact rfl)
            (go_big_quiet_want; refine quiet_load_refval _ rfl b1 (off1 + j * 3) d1 rfl (fun w' hw' => by obtain ⟨L1, rfl⟩ := hw'; exact HW1.out _ L1.ok) ?_; go_big_quiet_on; try simp only [Act.put, List.setIfInBounds_toArray, List.set_cons_zero, List.set_cons_succ])
            go_big_quiet_step (exact rfl)
            go_big_quiet_step (exact rfl)
            go_big_quiet_step (exact rfl)
            (go_big_quiet_want; refine quiet_load_refval _ rfl b2 (off2 + j * 3) d2 rfl (fun w' hw' => by obtain ⟨L1, rfl⟩ := hw'; exact HW2.out _ L1.ok) ?_; go_big_quiet_on; try simp only [Act.put, List.setIfInBounds_toArray, List.set_cons_zero, List.set_cons_succ])
            go_big_quiet_step (exact Later.calls (HC.out _ (Later.ok _)))
            go_big_quiet_step (exact rfl)
            refine wpQuiet_nil ?_
            intro w' hw'
            obtain ⟨L', rfl⟩ := hw'
            go_step
            go_step
            go_wp2_with fail
            go_ret
            exact ⟨congrArg (fun z => Ending.returned (.int .i64 z)) (HR.out.symm.trans HRes.out.symm), HbW.out.trans ((bt3 HBr.out L'.ok).mono HbW.out.size)⟩
        · have hd2 : decide ((j : Int) < n2) = false := by simp; omega
          have HR : Hid (ordL lx ly = cmpI n2 n1) := Lib.hid (by
            rw [hj.out.2.2, ordL_short (by rw [List.drop_eq_nil_iff, List.drop_eq_nil_iff]; have h1 := HN.out; omega), List.length_drop, List.length_drop]
            have h1 := HN.out
            have h2 := hj.out
            unfold cmpI
            split <;> split <;> (try split) <;> (try split) <;> omega)
          by_cases hnn : n1 = n2
          · have e3 : ((n1 : Int) != (n2 : Int)) = false := by simp [hnn]
            have e4 : (n1 != n2) = false := by simp [hnn]
            have HR2 : Hid (ordL lx ly = 0) := Lib.hid (by rw [HR.out, hnn, cmpI_self])
            clear HR
            go_wp2_with fail
            go_ret
            exact ⟨congrArg (fun z => Ending.returned (.int .i64 z)) (HR2.out.symm.trans HRes.out.symm), HbW.out.trans (HBr.out.mono HbW.out.size)⟩
          · have e3 : ((n1 : Int) != (n2 : Int)) = true := by simp; omega
            have e4 : (n1 != n2) = true := by simp [hnn]
            have HR2 : Hid ((if decide ((n2 : Int) < (n1 : Int)) = true then (-1 : Int) else 1) = ordL lx ly) := Lib.hid (by rw [HR.out]; exact sign_cmp (by omega))
            generalize hgd : decide ((n2 : Int) < (n1 : Int)) = gd at HR2
            have hgd2 : decide ((n1 : Int) > (n2 : Int)) = gd := hgd
            have hgd3 : decide (n2 < n1) = gd := by rw [← hgd]; simp
            clear HR
            cases gd
            all_goals
              go_wp2_with fail
              refine (sign_any _ _).mono ?_
              rintro e wz ⟨rfl, hbz⟩
              have Hz := Lib.hid (bt3 HBr.out hbz)
              clear hbz
              go_wp2_with fail
              go_ret
              exact ⟨congrArg (fun z => Ending.returned (.int .i64 z)) (HR2.out.trans HRes.out.symm), HbW.out.trans (Hz.out.mono HbW.out.size)⟩
      · have hd1 : decide ((j : Int) < n1) = false := by simp; omega
        have HR : Hid (ordL lx ly = cmpI n2 n1) := Lib.hid (by
          rw [hj.out.2.2, ordL_short (by rw [List.drop_eq_nil_iff, List.drop_eq_nil_iff]; have h1 := HN.out; omega), List.length_drop, List.length_drop]
          have h1 := HN.out
          have h2 := hj.out
          unfold cmpI
          split <;> split <;> (try split) <;> (try split) <;> omega)
        by_cases hnn : n1 = n2
        · have e3 : ((n1 : Int) != (n2 : Int)) = false := by simp [hnn]
          have e4 : (n1 != n2) = false := by simp [hnn]
          have HR2 : Hid (ordL lx ly = 0) := Lib.hid (by rw [HR.out, hnn, cmpI_self])
          clear HR
          go_wp2_with fail
          go_ret
          exact ⟨congrArg (fun z => Ending.returned (.int .i64 z)) (HR2.out.symm.trans HRes.out.symm), HbW.out.trans (HBr.out.mono HbW.out.size)⟩
        · have e3 : ((n1 : Int) != (n2 : Int)) = true := by simp; omega
          have e4 : (n1 != n2) = true := by simp [hnn]
          have HR2 : Hid ((if decide ((n2 : Int) < (n1 : Int)) = true then (-1 : Int) else 1) = ordL lx ly) := Lib.hid (by rw [HR.out]; exact sign_cmp (by omega))
          generalize hgd : decide ((n2 : Int) < (n1 : Int)) = gd at HR2
          have hgd2 : decide ((n1 : Int) > (n2 : Int)) = gd := hgd
          have hgd3 : decide (n2 < n1) = gd := by rw [← hgd]; simp
          clear HR
          cases gd
          all_goals
            go_wp2_with fail
            refine (sign_any _ _).mono ?_
            rintro e wz ⟨rfl, hbz⟩
            have Hz := Lib.hid (bt3 HBr.out hbz)
            clear hbz
            go_wp2_with fail
            go_ret
            exact ⟨congrArg (fun z => Ending.returned (.int .i64 z)) (HR2.out.trans HRes.out.symm), HbW.out.trans (Hz.out.mono HbW.out.size)⟩
theorem rank_ok : ∀ (n : Nat) (x : Vl), x.count ≤ n → RkOk x
  | 0, x, h => absurd (Vl.count_pos x) (by omega)
  | n + 1, x, h => rank_step fun u hu => rank_ok n u (by have := counts_mem hu; have := cntd_counts x; omega)
theorem refRank_any (x : Vl) : RkOk x := rank_ok _ x (Nat.le_refl _)
end V
end Go.Proofs.Ytkekdfelcfoilaa
