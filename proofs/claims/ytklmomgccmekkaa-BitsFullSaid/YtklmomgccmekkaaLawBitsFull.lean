/- The law BitsFull, walked: any core, any choices, any bytes, any place to cut at. -/
import Derived.Test.YtklmomgccmekkaaBitsAwake
import Derived.Test.YtklmomgccmekkaaCoreBig
import Derived.Test.YtklmomgccmekkaaHoldKit
import Derived.Test.YtklmomgccmekkaaAnyInv
namespace Go.Proofs.Ytklmomgccmekkaa
namespace V
set_option maxRecDepth 100000
open Go.RowKit
theorem resG_zero {c : K.Cr} {bs s : List Nat} (h : (resG c bs s).2 = 0) : s.length ≤ 256 ∧ K.goodC c = true ∧ ∃ v, getV c bs s = some v ∧ resG c bs s = (v, 0) := by
  unfold resG at h ⊢
  cases hd : (decide (256 < s.length) || !K.goodC c) with
  | true => rw [hd] at h; cases h
  | false =>
    rw [hd] at h
    rw [Bool.or_eq_false_iff, decide_eq_false_iff_not, Bool.not_eq_false'] at hd
    refine ⟨by omega, hd.2, ?_⟩
    cases hv : getV c bs s with
    | none => rw [hv] at h; cases h
    | some v => exact ⟨v, rfl, rfl⟩
theorem resG_other {c : K.Cr} {bs bs' s : List Nat} (h : (resG c bs s).2 = 0) (hp : (∃ q, bs' = bs ++ q) ∨ (∃ q, bs = bs' ++ q)) (hne : bs' ≠ bs) : (resG c bs' s).2 = 7 := by
  obtain ⟨h1, h2, v, hv, _⟩ := resG_zero h
  unfold resG
  rw [decide_eq_false (by omega), h2]
  show (match getV c bs' s with
    | none => (v0, (7 : Int))
    | some v => (v, 0)).2 = 7
  cases hu : getV c bs' s with
  | none => rfl
  | some u =>
    exfalso
    obtain ⟨v1, v2, v3, v4⟩ := (getV_iff _ _ _ _).1 hv
    obtain ⟨u1, u2, u3, u4⟩ := (getV_iff _ _ _ _).1 hu
    have := (put_apart (p := []) v1 u1 v2 u2 (by rw [List.append_nil, ← v4, ← u4])).1 (by rw [← v3, ← u3]; exact hp)
    rw [v3, u3, this] at hne
    exact hne rfl
theorem nats_take (t : ByteArray) (k : Nat) (_h : k ≤ t.size) : nats (t.extract 0 k) = (nats t).take k := by
  unfold nats
  rw [Lib.extract_eq, List.drop_zero, Nat.sub_zero, List.map_take]
set_option maxHeartbeats 8000000 in
theorem bitsFull_walk (x : K.Cr) (cs : List Value) (t : ByteArray) (a : Option Addr) (n cap : Nat) (l : List Nat) (z : Int) (_hz : fits64 z) (w : World) (hx : K.Cr.at w x cs) (hl : BytesAt w a n cap l) :
    Calls Try.prog 7 #[.agg cs.toArray, .string t, .slice a n cap, .int .i64 z] w fun e w' => e = .returned (.bool true) ∧ Below w.heap.size w w' := by
  have atx := fun (w' : World) (hb : Below w.heap.size w w') => K.Cr.at_below hb (Nat.le_refl _) _ _ hx
  have hbig := fun (w' : World) (hb : Below w.heap.size w w') => K.big_any 60 x cs w' (by decide) (atx w' hb)
  have hget := fun (u : ByteArray) (hu : u.size ≤ 9223372036854775807) (w' : World) (hb : Below w.heap.size w w') => get_any (t := u) (atx w' hb) (bytes_keep hl hb) hu
  have hn := hl.1
  have hmx : (n : Int) ≤ 9223372036854775807 := by have := hl.2.2.1; unfold maxLen at this; omega
  obtain ⟨kx, sx, nx, ax, lenx, capx, rfl⟩ := K.at_lit hx
  obtain ⟨W, hW⟩ : ∃ W, W = w.alloc (.cells #[.int .i64 kx, .int .u64 (word sx 0), .int .u64 (word sx 1), .int .u64 (word sx 2), .int .u64 (word sx 3), .int .i64 nx, .slice ax lenx capx] 28) := ⟨_, rfl⟩
  have hal : Below w.heap.size w W := by rw [hW]; exact K.alloc_below w _
  have hcx : K.CoreIn W w.heap.size #[.int .i64 kx, .int .u64 (word sx 0), .int .u64 (word sx 1), .int .u64 (word sx 2), .int .u64 (word sx 3), .int .i64 nx, .slice ax lenx capx] := by rw [hW]; exact World.alloc_heap_new w _
  have h7x : ∀ w' : World, Below W.heap.size W w' → K.Core7 w' w.heap.size 0 [.int .i64 kx, .int .u64 (word sx 0), .int .u64 (word sx 1), .int .u64 (word sx 2), .int .u64 (word sx 3), .int .i64 nx, .slice ax lenx capx] := fun w' hb => core7_below (K.core7_in hcx rfl) (lt_of_block hcx) hb
  have hup : ∀ w' : World, Below W.heap.size W w' → Below w.heap.size w w' := fun w' hb => hal.trans (hb.mono hal.size)
  have H7x := Lib.hid h7x
  have Hup := Lib.hid hup
  have Hbig := Lib.hid hbig
  have Hget := Lib.hid hget
  have HN := Lib.hid hn
  have Hb0 := Lib.hid (Below.refl W.heap.size W)
  clear atx hbig hget hal hcx h7x hup hx hl hn
  go_enter Try.func7, Try.ntmps7
  go_upto_region 1 with fail
  rw [← hW]
  clear hW
  go_wp2_with fail
  refine (awake11_any _).mono ?_
  rintro e w1 ⟨rfl, hb'⟩
  have Hb1 := Lib.hid (Hb0.out.trans (hb'.mono Hb0.out.size))
  clear hb'
  go_wp2_with (first | (refine K.wpList_load_core rfl _ rfl w.heap.size 0 _ rfl (H7x.out _ Hb1.out) ?_) | fail)
  refine (Hbig.out _ (Hup.out _ Hb1.out)).mono ?_
  rintro e w2 ⟨rfl, hb'⟩
  have Hb2 := Lib.hid (Hb1.out.trans (hb'.mono Hb1.out.size))
  clear hb'
  generalize K.bigN 60 x = bx at *
  cases bx
  case true =>
    go_wp2_with fail
    go_ret
    exact ⟨rfl, Hup.out _ Hb2.out⟩
  by_cases c1 : 100 < t.size
  · have c1_0 : decide ((t.size : Int) > 100) = true := by simp; omega
    have c1_1 : decide ((100 : Int) < t.size) = true := by simp; omega
    have c1_2 : decide (100 < t.size) = true := by simp; omega
    clear c1
    go_wp2_with fail
    go_ret
    exact ⟨rfl, Hup.out _ Hb2.out⟩
  have c1_0 : decide ((t.size : Int) > 100) = false := by simp; omega
  have c1_1 : decide ((100 : Int) < t.size) = false := by simp; omega
  have c1_2 : decide (100 < t.size) = false := by simp; omega
  by_cases c2 : 60 < n
  · have c2_0 : decide ((n : Int) > 60) = true := by simp; omega
    have c2_1 : decide ((60 : Int) < n) = true := by simp; omega
    have c2_2 : decide (60 < n) = true := by simp; omega
    clear c2
    go_wp2_with fail
    go_ret
    exact ⟨rfl, Hup.out _ Hb2.out⟩
  have c2_0 : decide ((n : Int) > 60) = false := by simp; omega
  have c2_1 : decide ((60 : Int) < n) = false := by simp; omega
  have c2_2 : decide (60 < n) = false := by simp; omega
  by_cases c3 : z < 0
  · have c3_0 : decide (z < 0) = true := by simp; omega
    clear c3
    go_wp2_with fail
    go_ret
    exact ⟨rfl, Hup.out _ Hb2.out⟩
  have c3_0 : decide (z < 0) = false := by simp; omega
  by_cases c4 : (t.size : Int) ≤ z
  · have c4_0 : decide (z ≥ (t.size : Int)) = true := by simp; omega
    have c4_1 : decide ((t.size : Int) ≤ z) = true := by simp; omega
    clear c4
    go_wp2_with fail
    go_ret
    exact ⟨rfl, Hup.out _ Hb2.out⟩
  have c4_0 : decide (z ≥ (t.size : Int)) = false := by simp; omega
  have c4_1 : decide ((t.size : Int) ≤ z) = false := by simp; omega
  obtain ⟨ct, rfl⟩ : ∃ ct : Nat, z = (ct : Int) := ⟨z.toNat, by omega⟩
  have hct : ct < t.size := by omega
  have ht100 : t.size ≤ 100 := by omega
  have hctI : (ct : Int) ≤ t.size := by omega
  have hct0 : (0 : Int) ≤ (ct : Int) := by omega
  have hctT : ((ct : Int)).toNat = ct := rfl
  clear c1 c2 c3 c4
  obtain ⟨e1, he1⟩ : ∃ e1, e1 = (resG x (nats t) l).2 := ⟨_, rfl⟩
  have Hg1 := Lib.hid (Hget.out t (by omega) w2 (Hup.out _ Hb2.out))
  have Hlt := Lib.hid (And.intro hct ht100)
  go_wp2_with (first | (refine K.wpList_load_core rfl _ rfl w.heap.size 0 _ rfl (H7x.out _ Hb2.out) ?_) | fail)
  refine Hg1.out.mono ?_
  rintro e w3 ⟨k3, z3, a3, len3, cap3, rfl, _, hb'⟩
  rw [← he1]
  have He1 := Lib.hid he1
  obtain ⟨w4, hw4⟩ : ∃ w4, w4 = w3.alloc (.cells #[.int .i64 k3, .int .u8 z3, .slice a3 len3 cap3] 35) := ⟨_, rfl⟩
  have hb4 : Below W.heap.size W w4 := (Hb2.out.trans (hb'.mono Hb2.out.size)).trans ((by rw [hw4]; exact K.alloc_below w3 _ : Below w3.heap.size w3 w4).mono (by have := Hb2.out.size; have := hb'.size; omega))
  have Hb4 := Lib.hid hb4
  clear hb' hb4 he1 Hg1
  go_upto_region 6 with fail
  rw [← hw4]
  clear hw4
  by_cases hz : e1 = 0
  case neg =>
    have hz1 : (e1 != 0) = true := by simpa using hz
    clear hz
    go_wp2_with fail
    go_ret
    exact ⟨rfl, Hup.out _ Hb4.out⟩
  subst hz
  have hother := fun (u : ByteArray) (hp : (∃ q, nats u = nats t ++ q) ∨ (∃ q, nats t = nats u ++ q)) (hne : nats u ≠ nats t) => resG_other (c := x) (s := l) He1.out.symm hp hne
  have h7a : (resG x (nats (t.extract 0 ct)) l).2 = 7 := hother _ (.inr ⟨(nats t).drop ct, by rw [nats_take t ct (by omega), List.take_append_drop]⟩) (by
    intro e
    have := congrArg List.length e
    rw [nats_length, nats_length, ByteArray.size_extract] at this
    omega)
  have h7b : ∀ u : ByteArray, u.size = 1 → (resG x (nats (t ++ u)) l).2 = 7 := fun u hu => hother _ (.inl ⟨nats u, nats_add t u⟩) (by
    intro e
    have := congrArg List.length e
    rw [nats_length, nats_length, ByteArray.size_append] at this
    omega)
  have hga := fun (w' : World) (hb : Below W.heap.size W w') => Hget.out (t.extract 0 ct) (by rw [ByteArray.size_extract]; omega) w' (Hup.out _ hb)
  have hgb := fun (u : ByteArray) (hu : u.size = 1) (w' : World) (hb : Below W.heap.size W w') => Hget.out (t ++ u) (by rw [ByteArray.size_append]; omega) w' (Hup.out _ hb)
  have Hga := Lib.hid hga
  have Hgb := Lib.hid hgb
  have H7a := Lib.hid h7a
  have H7b := Lib.hid h7b
  clear hother h7a h7b hga hgb Hget He1
  go_upto_region 8 with fail
  go_cut [11, 12] from 50 to 58 (fun _ v12 wx => v12 = .int .i64 7 ∧ Below w4.heap.size w4 wx)
  case first =>
    rename_i J K' hR hMet
    obtain ⟨wd, hwd⟩ : ∃ wd, wd = w4.drew := ⟨_, rfl⟩
    have hBd : Below w4.heap.size w4 wd := by rw [hwd]; exact (Below.refl _ _).drew
    refine wp_region_hold (fun w' => Below w4.heap.size w4 w') (.plain 0 (.plain 1 (.plain 2 (.plain 3 (.plain 4 (.fork 5 (.plain 6 (.plain 7 (.plain 8 (.sole 9 (.sole 10 (.plain 11 .done)))))) 9 (.sole 5 (.plain 6 (.plain 7 (.plain 8 (.sole 10 (.plain 11 .done)))))))))))) (by rw [← hwd]; exact hBd) (by kernel_rfl) (by kernel_rfl) (fun c a d v w h => by cases d <;> exact h) ?_
    rw [← hwd]
    clear hwd
    repeat (first
        | (refine' hold_skip ?_ ?_ ?_
           rotate_left 1
           · simp only [List.getElem?_toArray, List.getElem?_cons_zero, List.getElem?_cons_succ]; exact rfl
           · exact rfl
           simp only [Act.put, List.setIfInBounds_toArray, List.set_cons_zero, List.set_cons_succ])
        | (refine' hold_want ?_ ?_ (fun J hJ => ?_)
           rotate_left 1
           · simp only [List.getElem?_toArray, List.getElem?_cons_zero, List.getElem?_cons_succ]; exact rfl
           · exact rfl
           first
           | (refine quiet_slice_str _ _ rfl t ct rfl rfl (by have := Hlt.out; omega) ?_; refine hJ _ ?_; clear hJ J; try simp only [Act.put, List.setIfInBounds_toArray, List.set_cons_zero, List.set_cons_succ])
           | (refine K.quiet_load_core _ rfl w.heap.size 0 _ rfl (fun w' ⟨L, hL⟩ => H7x.out _ (Hb4.out.trans ((hL ▸ L.ok : Below w4.heap.size w4 w').mono Hb4.out.size))) ?_; refine hJ _ ?_; clear hJ J; try simp only [Act.put, List.setIfInBounds_toArray, List.set_cons_zero, List.set_cons_succ])
           | (refine quiet_extract _ _ rfl _ _ rfl rfl ?_; refine hJ _ ?_; clear hJ J; try simp only [Act.put, List.setIfInBounds_toArray, List.set_cons_zero, List.set_cons_succ])
           | (go_big_quiet_op; refine hJ _ ?_; clear hJ J; try simp only [Act.put, List.setIfInBounds_toArray, List.set_cons_zero, List.set_cons_succ])))
    refine hold_fork ?_ ?_
    · refine' hold_step ?_ ?_ (fun J hJ => ?_)
      rotate_left 1
      · simp only [List.getElem?_toArray, List.getElem?_cons_zero, List.getElem?_cons_succ]; exact rfl
      · exact rfl
      go_simp
      refine (Hga.out _ (Hb4.out.trans (hBd.mono Hb4.out.size))).mono ?_
      rintro e w5 ⟨k5, z5, a5, len5, cap5, rfl, _, hb5⟩
      rw [H7a.out]
      have hB5 : Below w4.heap.size w4 w5 := hBd.trans (hb5.mono hBd.size)
      refine hJ _ _ hB5 ?_
      clear hJ J hb5
      try simp only [Act.put, List.setIfInBounds_toArray, List.set_cons_zero, List.set_cons_succ]
      repeat (first
          | (refine' hold_skip ?_ ?_ ?_
             rotate_left 1
             · simp only [List.getElem?_toArray, List.getElem?_cons_zero, List.getElem?_cons_succ]; exact rfl
             · exact rfl
             simp only [Act.put, List.setIfInBounds_toArray, List.set_cons_zero, List.set_cons_succ])
          | (refine' hold_want ?_ ?_ (fun J hJ => ?_)
             rotate_left 1
             · simp only [List.getElem?_toArray, List.getElem?_cons_zero, List.getElem?_cons_succ]; exact rfl
             · exact rfl
             first
             | (refine quiet_slice_str _ _ rfl t ct rfl rfl (by have := Hlt.out; omega) ?_; refine hJ _ ?_; clear hJ J; try simp only [Act.put, List.setIfInBounds_toArray, List.set_cons_zero, List.set_cons_succ])
             | (refine K.quiet_load_core _ rfl w.heap.size 0 _ rfl (fun w' ⟨L, hL⟩ => H7x.out _ (Hb4.out.trans ((hL ▸ L.ok : Below w4.heap.size w4 w').mono Hb4.out.size))) ?_; refine hJ _ ?_; clear hJ J; try simp only [Act.put, List.setIfInBounds_toArray, List.set_cons_zero, List.set_cons_succ])
             | (refine quiet_extract _ _ rfl _ _ rfl rfl ?_; refine hJ _ ?_; clear hJ J; try simp only [Act.put, List.setIfInBounds_toArray, List.set_cons_zero, List.set_cons_succ])
             | (go_big_quiet_op; refine hJ _ ?_; clear hJ J; try simp only [Act.put, List.setIfInBounds_toArray, List.set_cons_zero, List.set_cons_succ])))
      refine' hold_sole ?_ ?_ (fun J hJ => ?_)
      rotate_left 1
      · simp only [List.getElem?_toArray, List.getElem?_cons_zero, List.getElem?_cons_succ]; exact rfl
      · exact rfl
      unfold Oper.wp execOp
      go_simp
      refine hJ _ _ (hB5.alloc (by first | exact Nat.le_refl _ | exact hB5.size) _) ?_
      have hz6 : ValIn (w5.alloc (.cells #[.int .i64 0, .int .u8 0, .slice none 0 0] 35)) w5.heap.size #[.int .i64 0, .int .u8 0, .slice none 0 0] := World.alloc_heap_new _ _
      have hB6 : Below w4.heap.size w4 (w5.alloc (.cells #[.int .i64 0, .int .u8 0, .slice none 0 0] 35)) := hB5.alloc (by first | exact Nat.le_refl _ | exact hB5.size) _
      clear hJ J
      try simp only [Act.put, List.setIfInBounds_toArray, List.set_cons_zero, List.set_cons_succ]
      refine' hold_sole ?_ ?_ (fun J hJ => ?_)
      rotate_left 1
      · simp only [List.getElem?_toArray, List.getElem?_cons_zero, List.getElem?_cons_succ]; exact rfl
      · exact rfl
      refine wp_store_val _ _ rfl w5.heap.size _ #[.int .i64 k5, .int .u8 z5, .slice a5 len5 cap5] rfl rfl hz6 rfl rfl (by simp [Value.oneCell']) ?_
      intro w7 hn7 ho7
      have hB7 : Below w4.heap.size w4 w7 := ho7.below hB6 (by first | exact Nat.le_refl _ | exact hB5.size)
      refine hJ _ _ hB7 ?_
      clear hJ J hn7 ho7
      try simp only [Act.put]
      repeat (first
          | (refine' hold_skip ?_ ?_ ?_
             rotate_left 1
             · simp only [List.getElem?_toArray, List.getElem?_cons_zero, List.getElem?_cons_succ]; exact rfl
             · exact rfl
             simp only [Act.put, List.setIfInBounds_toArray, List.set_cons_zero, List.set_cons_succ])
          | (refine' hold_want ?_ ?_ (fun J hJ => ?_)
             rotate_left 1
             · simp only [List.getElem?_toArray, List.getElem?_cons_zero, List.getElem?_cons_succ]; exact rfl
             · exact rfl
             first
             | (refine quiet_slice_str _ _ rfl t ct rfl rfl (by have := Hlt.out; omega) ?_; refine hJ _ ?_; clear hJ J; try simp only [Act.put, List.setIfInBounds_toArray, List.set_cons_zero, List.set_cons_succ])
             | (refine K.quiet_load_core _ rfl w.heap.size 0 _ rfl (fun w' ⟨L, hL⟩ => H7x.out _ (Hb4.out.trans ((hL ▸ L.ok : Below w4.heap.size w4 w').mono Hb4.out.size))) ?_; refine hJ _ ?_; clear hJ J; try simp only [Act.put, List.setIfInBounds_toArray, List.set_cons_zero, List.set_cons_succ])
             | (refine quiet_extract _ _ rfl _ _ rfl rfl ?_; refine hJ _ ?_; clear hJ J; try simp only [Act.put, List.setIfInBounds_toArray, List.set_cons_zero, List.set_cons_succ])
             | (go_big_quiet_op; refine hJ _ ?_; clear hJ J; try simp only [Act.put, List.setIfInBounds_toArray, List.set_cons_zero, List.set_cons_succ])))
      refine hold_done ?_
      refine hMet _ _ (Met.intro (hR _ _ ?_))
      exact ⟨_, _, _, _, _, _, _, _, _, _, _, ⟨rfl, hB7⟩, rfl⟩

    · refine' hold_step ?_ ?_ (fun J hJ => ?_)
      rotate_left 1
      · simp only [List.getElem?_toArray, List.getElem?_cons_zero, List.getElem?_cons_succ]; exact rfl
      · exact rfl
      unfold Oper.wp execOp
      go_simp
      refine hJ _ _ (hBd.alloc (by first | exact Nat.le_refl _ | exact hBd.size) _) ?_
      have hz6 : ValIn (wd.alloc (.cells #[.int .i64 0, .int .u8 0, .slice none 0 0] 35)) wd.heap.size #[.int .i64 0, .int .u8 0, .slice none 0 0] := World.alloc_heap_new _ _
      have hB6 : Below w4.heap.size w4 (wd.alloc (.cells #[.int .i64 0, .int .u8 0, .slice none 0 0] 35)) := hBd.alloc (by first | exact Nat.le_refl _ | exact hBd.size) _
      clear hJ J
      try simp only [Act.put, List.setIfInBounds_toArray, List.set_cons_zero, List.set_cons_succ]
      refine' hold_sole ?_ ?_ (fun J hJ => ?_)
      rotate_left 1
      · simp only [List.getElem?_toArray, List.getElem?_cons_zero, List.getElem?_cons_succ]; exact rfl
      · exact rfl
      go_simp
      refine (Hga.out _ (Hb4.out.trans (hB6.mono Hb4.out.size))).mono ?_
      rintro e w5 ⟨k5, z5, a5, len5, cap5, rfl, _, hb5⟩
      rw [H7a.out]
      have hB5 : Below w4.heap.size w4 w5 := hB6.trans (hb5.mono hB6.size)
      refine hJ _ _ hB5 ?_
      have hz5 : ValIn w5 wd.heap.size #[.int .i64 0, .int .u8 0, .slice none 0 0] := val_later hb5 hz6
      clear hJ J hb5
      try simp only [Act.put, List.setIfInBounds_toArray, List.set_cons_zero, List.set_cons_succ]
      repeat (first
          | (refine' hold_skip ?_ ?_ ?_
             rotate_left 1
             · simp only [List.getElem?_toArray, List.getElem?_cons_zero, List.getElem?_cons_succ]; exact rfl
             · exact rfl
             simp only [Act.put, List.setIfInBounds_toArray, List.set_cons_zero, List.set_cons_succ])
          | (refine' hold_want ?_ ?_ (fun J hJ => ?_)
             rotate_left 1
             · simp only [List.getElem?_toArray, List.getElem?_cons_zero, List.getElem?_cons_succ]; exact rfl
             · exact rfl
             first
             | (refine quiet_slice_str _ _ rfl t ct rfl rfl (by have := Hlt.out; omega) ?_; refine hJ _ ?_; clear hJ J; try simp only [Act.put, List.setIfInBounds_toArray, List.set_cons_zero, List.set_cons_succ])
             | (refine K.quiet_load_core _ rfl w.heap.size 0 _ rfl (fun w' ⟨L, hL⟩ => H7x.out _ (Hb4.out.trans ((hL ▸ L.ok : Below w4.heap.size w4 w').mono Hb4.out.size))) ?_; refine hJ _ ?_; clear hJ J; try simp only [Act.put, List.setIfInBounds_toArray, List.set_cons_zero, List.set_cons_succ])
             | (refine quiet_extract _ _ rfl _ _ rfl rfl ?_; refine hJ _ ?_; clear hJ J; try simp only [Act.put, List.setIfInBounds_toArray, List.set_cons_zero, List.set_cons_succ])
             | (go_big_quiet_op; refine hJ _ ?_; clear hJ J; try simp only [Act.put, List.setIfInBounds_toArray, List.set_cons_zero, List.set_cons_succ])))
      refine' hold_sole ?_ ?_ (fun J hJ => ?_)
      rotate_left 1
      · simp only [List.getElem?_toArray, List.getElem?_cons_zero, List.getElem?_cons_succ]; exact rfl
      · exact rfl
      refine wp_store_val _ _ rfl wd.heap.size _ #[.int .i64 k5, .int .u8 z5, .slice a5 len5 cap5] rfl rfl hz5 rfl rfl (by simp [Value.oneCell']) ?_
      intro w7 hn7 ho7
      have hB7 : Below w4.heap.size w4 w7 := ho7.below hB5 (by first | exact Nat.le_refl _ | exact hBd.size)
      refine hJ _ _ hB7 ?_
      clear hJ J hn7 ho7
      try simp only [Act.put]
      repeat (first
          | (refine' hold_skip ?_ ?_ ?_
             rotate_left 1
             · simp only [List.getElem?_toArray, List.getElem?_cons_zero, List.getElem?_cons_succ]; exact rfl
             · exact rfl
             simp only [Act.put, List.setIfInBounds_toArray, List.set_cons_zero, List.set_cons_succ])
          | (refine' hold_want ?_ ?_ (fun J hJ => ?_)
             rotate_left 1
             · simp only [List.getElem?_toArray, List.getElem?_cons_zero, List.getElem?_cons_succ]; exact rfl
             · exact rfl
             first
             | (refine quiet_slice_str _ _ rfl t ct rfl rfl (by have := Hlt.out; omega) ?_; refine hJ _ ?_; clear hJ J; try simp only [Act.put, List.setIfInBounds_toArray, List.set_cons_zero, List.set_cons_succ])
             | (refine K.quiet_load_core _ rfl w.heap.size 0 _ rfl (fun w' ⟨L, hL⟩ => H7x.out _ (Hb4.out.trans ((hL ▸ L.ok : Below w4.heap.size w4 w').mono Hb4.out.size))) ?_; refine hJ _ ?_; clear hJ J; try simp only [Act.put, List.setIfInBounds_toArray, List.set_cons_zero, List.set_cons_succ])
             | (refine quiet_extract _ _ rfl _ _ rfl rfl ?_; refine hJ _ ?_; clear hJ J; try simp only [Act.put, List.setIfInBounds_toArray, List.set_cons_zero, List.set_cons_succ])
             | (go_big_quiet_op; refine hJ _ ?_; clear hJ J; try simp only [Act.put, List.setIfInBounds_toArray, List.set_cons_zero, List.set_cons_succ])))
      refine hold_done ?_
      refine hMet _ _ (Met.intro (hR _ _ ?_))
      exact ⟨_, _, _, _, _, _, _, _, _, _, _, ⟨rfl, hB7⟩, rfl⟩


  case rest =>
  obtain ⟨rfl, hBc⟩ := hcut
  have Hb8 := Lib.hid (Hb4.out.trans (hBc.mono Hb4.out.size))
  clear hBc
  have hsum : (9223372036854775807 < t.size + 1) = False := by have := Hlt.out; simp; omega
  have hg9 := Hgb.out ⟨#[48]⟩ rfl _ Hb8.out
  have Hg9 := Lib.hid hg9
  clear hg9
  go_wp2_with (first | (refine K.wpList_load_core rfl _ rfl w.heap.size 0 _ rfl (H7x.out _ Hb8.out) ?_) | fail)
  refine Hg9.out.mono ?_
  rintro e w9 ⟨k9, z9, a9, len9, cap9, rfl, _, hb9⟩
  rw [H7b.out ⟨#[48]⟩ rfl]
  obtain ⟨w10, hw10⟩ : ∃ w10, w10 = w9.alloc (.cells #[.int .i64 k9, .int .u8 z9, .slice a9 len9 cap9] 35) := ⟨_, rfl⟩
  have hb10 : Below W.heap.size W w10 := (Hb8.out.trans (hb9.mono Hb8.out.size)).trans ((by rw [hw10]; exact K.alloc_below w9 _ : Below w9.heap.size w9 w10).mono (by have := Hb8.out.size; have := hb9.size; omega))
  have Hb10 := Lib.hid hb10
  have hg11 := Hgb.out ⟨#[49]⟩ rfl _ hb10
  have Hg11 := Lib.hid hg11
  clear hb9 hb10 hg11 Hg9
  go_upto_region 10 with fail
  rw [← hw10]
  clear hw10
  go_wp2_with (first | (refine K.wpList_load_core rfl _ rfl w.heap.size 0 _ rfl (H7x.out _ Hb10.out) ?_) | fail)
  refine Hg11.out.mono ?_
  rintro e w11 ⟨k11, z11, a11, len11, cap11, rfl, _, hb11⟩
  rw [H7b.out ⟨#[49]⟩ rfl]
  obtain ⟨w12, hw12⟩ : ∃ w12, w12 = w11.alloc (.cells #[.int .i64 k11, .int .u8 z11, .slice a11 len11 cap11] 35) := ⟨_, rfl⟩
  have hb12 : Below W.heap.size W w12 := (Hb10.out.trans (hb11.mono Hb10.out.size)).trans ((by rw [hw12]; exact K.alloc_below w11 _ : Below w11.heap.size w11 w12).mono (by have := Hb10.out.size; have := hb11.size; omega))
  have Hb12 := Lib.hid hb12
  clear hb11 hb12 Hg11
  go_upto_region 11 with fail
  rw [← hw12]
  clear hw12
  go_wp2_with fail
  go_ret
  exact ⟨rfl, Hup.out _ Hb12.out⟩
end V
end Go.Proofs.Ytklmomgccmekkaa
