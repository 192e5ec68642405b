/- lang's machine: nowhere, enter, walked. -/
import Derived.Test.YtobhjfhmhhahoaaLangMem
import Derived.Test.YtobhjfhmhhahoaaLater
import Derived.Deep.DeepCutAuto
namespace Go.Proofs.Ytobhjfhmhhahoaa
namespace K
set_option maxRecDepth 100000
open Go.RowKit
theorem info_bools : (Try.prog.info? 4).map (fun i => (i.zero, i.size, i.bytes)) = some (some (.bool false), 1, 1) := by kernel_rfl
theorem wpList_make_bools {ops : Array Oper} {rest : List Oper} {o : Oper} {a : Act} {w : World} {Q : Exit → Act → World → Prop} (hgd : o.guard = none) (x y : Operand) (ho : o.op = .makeSlice 59 x y) (n : Nat)
    (hx : a.eval x = .int .i64 n) (hy : a.eval y = .int .i64 n) (hn : n ≤ 100000)
    (h : ∀ w', w'.ownsRow w.heap.size 4 1 (.slice (some ⟨w.heap.size, 0, none⟩) n n) n (boolsV (List.replicate n false)) → Below w.heap.size w w' → wpList Try.prog ops Q rest (a.put o.dst (.slice (some ⟨w.heap.size, 0, none⟩) n n)) w') : wpList Try.prog ops Q (o :: rest) a w := by
  obtain ⟨i0, hi, hz0, hz1, hz2⟩ := info_parts info_bools
  obtain ⟨w', hr, h2, h3⟩ := run_makeSlice_full (P := Try.prog) w w.heap.size 59 4 i0 (.bool false) 1 Try.underlying59 hi hz0 hz1 .i64 .i64 n (by omega) (by rw [hz2]; omega) (by unfold maxLen; omega) (Nat.le_refl _)
  have e : (madeCells (Value.bool false).cells (n * 1)).toList = boolsV (List.replicate n false) := by
    rw [boolsV, List.map_replicate, Nat.mul_one]
    exact toList_madeCells_one (.bool false) n
  rw [e] at h2
  refine wpList_plain hgd fun _ hK => ?_
  unfold Oper.wp execOp
  simp only [ho, hx, hy, hr, Sem.run_bind, Sem.run_pure, Result.andThen_ok]
  exact hK _ _ (h _ h2 ((Below.refl _ _).grown h3 (Nat.le_refl _) (fun k hk => by cases hk)))
def NoCrowd (n : Nat) (w : World) (e : Ending) (w' : World) : Prop :=
  ∃ vi, e = .returned (.agg #[.slice none 0 0, vi]) ∧ CrowdV w.heap.size w' (.slice none 0 0) vi (noCrowd n) ∧ Below w.heap.size w w'
set_option maxHeartbeats 1000000 in
theorem nowhere_walk {B : Nat} {w : World} {m : Nat} {S : List St} {q : Nat} (h : MachAt B w m S q) (h0 : 0 < S.length) (hS : S.length ≤ 100000) :
    Calls Try.prog 29 #[.pointer (some ⟨m, 0, none⟩)] w (NoCrowd S.length w) := by
  have hlt := h.lt
  obtain ⟨sb, cap, c0, g1, g2, g3, g4, g5, g6, g7, g8⟩ := h.open h0
  clear g1 g2 g3 g4 g5 g6 g7 g8
  have hlen : (noCrowd S.length).2.length = S.length := by simp [noCrowd]
  generalize S.length = n at *
  clear h
  go_enter Try.func29, Try.ntmps29
  go_wp2_with (refine wpList_make_bools rfl _ _ rfl n rfl rfl hS ?_; intro w1 hown hb; obtain ⟨hc, hf⟩ := bcell hb; have hz : w.heap.size < w1.heap.size := by have := hb.size; simp at this; omega)
  have hbox : w1.heap[w.heap.size]? = some (.cells #[.slice none 0 0, .slice none 0 0] 61) := (hb.block w.heap.size (by simp)).trans (World.alloc_heap_new w _)
  refine bodyPost_ret (v := .agg #[.slice none 0 0, .slice (some ⟨w.heap.size + 1, 0, none⟩) n n]) (by simp [results, Try.results29, go_sem, hc]) rfl ⟨_, rfl, ⟨⟨by simp [natsV, noCrowd], .inl ⟨rfl, rfl⟩⟩, ?_⟩, ?_⟩
  · have hbox2 : (w1.setCell ⟨w.heap.size, 0, none⟩ (.slice none 0 0)).heap[w.heap.size]? = some (.cells #[.slice none 0 0, .slice none 0 0] 61) := by
      simp [World.setCell, Array.getElem?_modify, hbox]
    have h1 := owns_other hown (p := ⟨w.heap.size, 0, none⟩) hbox (by decide) (.slice none 0 0)
    have h2 := owns_other h1 (p := ⟨w.heap.size, 1, none⟩) hbox2 (by decide) (.slice (some ⟨w.heap.size + 1, 0, none⟩) n n)
    have h3 := owns_mono h2 (base' := w.heap.size) (by simp)
    simp only [noCrowd, List.length_replicate]
    simpa using h3
  · exact ((((Below.refl _ _).alloc (Nat.le_refl _) _).trans (hb.mono (by simp))).setCell (by simp) _).setCell (by simp) _
/-! enter -/
abbrev crT : List TypeId := [61, 3, 4]
def Enters (B c : Nat) (d : List Nat × List Bool) (w : World) (e : Ending) (w' : World) : Prop := e = .returned (.tuple #[]) ∧ CrowdAt B w' c d ∧ Fr crT B w w'
theorem state7_of {w : World} {sb : Nat} {S : List St} (h : ∀ (i : Nat) (t : St), S[i]? = some t → ∀ j, j < 7 → w.cell? ⟨sb, i * 7 + j, none⟩ = (stVals t)[j]?) {p : Nat} (hp : p < S.length) : State7 w sb (p * 7) (stVals S[p]) :=
  ⟨rfl, fun q hq => h p _ (List.getElem?_eq_getElem hp) q hq⟩
theorem wpList_store_state {ops : Array Oper} {rest : List Oper} {o : Oper} {a : Act} {w : World} {Q : Exit → Act → World → Prop} (hgd : o.guard = none) (x y : Operand) (ho : o.op = .store 54 x y)
    (b : Nat) (cs ds : Array Value) (hx : a.eval x = .pointer (some ⟨b, 0, none⟩)) (hy : a.eval y = .agg ds) (hb : w.heap[b]? = some (.cells cs 54)) (hd : ds.size = 7) (hc : cs.size = 7) (h1 : (ds.all fun x => x.oneCell') = true)
    (h : ∀ w', w'.heap[b]? = some (.cells ds 54) → Only b w w' → wpList Try.prog ops Q rest (a.put o.dst undef) w') : wpList Try.prog ops Q (o :: rest) a w :=
  wpList_store_row hgd _ _ _ ho b _ hx hy _ _ hb (by rw [hd]; exact infoState) (by rw [hd, hc]) h1 (h _ (setRow_heap w b _ _ _ _ hb) (only_row _ _ _))
theorem only_new_below {c : Nat} {w w1 w' : World} (h : Only c w1 w') (hb : Below w.heap.size w w1) (hc : w.heap.size ≤ c) : Below w.heap.size w w' :=
  ⟨h.os.trans hb.os, h.tape.trans hb.tape, h.output.trans hb.output, by rw [h.size]; exact hb.size, fun k hk => (h.block k (by omega)).trans (hb.block k hk)⟩
theorem natsV_snoc (l : List Nat) (p : Nat) : natsV (l ++ [p]) = natsV l ++ [.int .i64 (p : Int)] := by simp [natsV]
set_option maxHeartbeats 4000000 in
theorem enter_walk {A B m c q : Nat} {S : List St} (hw : StWf S.length S) (hS : S.length ≤ 100000) : ∀ (n : Nat) (d : List Nat × List Bool) (p : Nat) (w : World), MachAt A w m S q → CrowdAt B w c d → CrOk S.length d → p < S.length → off d.2 < n → B ≤ w.heap.size →
    Calls Try.prog 30 #[.pointer (some ⟨m, 0, none⟩), .pointer (some ⟨c, 0, none⟩), .int .i64 (p : Int)] w (Enters B c (enterM n S d p) w) := by
  intro n
  induction n with
  | zero => intro d p w _ _ _ _ h; omega
  | succ n ih =>
    intro d p w hm hc hok hp hn hB
    have h0 : 0 < S.length := by omega
    have hc0 := hc
    obtain ⟨hBc, vl, vi, hblk, hl, hi⟩ := hc
    have hil : d.2.length = S.length := hok.len
    obtain ⟨ib, icap, rfl, hBi, hib, hicap, himax, hget, hfro, ics, hicell⟩ := marks_open hi (by omega)
    have hmp : p < d.2.length := by omega
    have hcell0 : w.cell? ⟨c, 0, none⟩ = some vl := by rw [cells_at hblk]; rfl
    have hcell1 : w.cell? ⟨c, 1, none⟩ = some (.slice (some ⟨ib, 0, none⟩) d.2.length icap) := by rw [cells_at hblk]; rfl
    have hgp := hget p d.2[p] (List.getElem?_eq_getElem hmp)
    have hfp := hfro p
    have hpl : decide ((p : Int) < d.2.length) = true := by simp; omega
    rw [enterM]
    by_cases hmark : d.2[p]? = some true
    · rw [if_pos hmark]
      have hv : d.2[p] = true := by rw [List.getElem?_eq_getElem hmp] at hmark; exact Option.some.inj hmark
      rw [hv] at hgp
      clear ih hm hok hget hfro hi hl hicell hmark hv hblk hcell0 hn hib hBi himax
      generalize d.2.length = len at *
      go_enter Try.func30, Try.ntmps30
      go_wp2_with fail
      exact bodyPost_ret (v := .tuple #[]) (by simp [results, Try.results30, go_sem]) rfl ⟨rfl, hc0, Fr.refl _ _ _⟩
    · rw [if_neg hmark]
      rw [List.getElem?_eq_getElem hp]
      simp only
      obtain ⟨D, hD⟩ : ∃ D, D = (if S[p].fork = true then enterM n S (enterM n S (d.1 ++ [p], d.2.set p true) S[p].next) S[p].other else (d.1 ++ [p], d.2.set p true)) := ⟨_, rfl⟩
      rw [← hD]
      have HD := Lib.hid hD
      clear hD
      have hv : d.2[p] = false := by
        rw [List.getElem?_eq_getElem hmp] at hmark
        cases hv : d.2[p] with
        | true => rw [hv] at hmark; exact absurd rfl hmark
        | false => rfl
      rw [hv] at hgp
      have h0' : d.2[p]? = some false := by rw [List.getElem?_eq_getElem hmp, hv]
      have hadd := crOk_add hok h0'
      have hoff := off_set h0'
      have hll : d.1.length ≤ 100000 := by have := hok.cnt; omega
      -- the world behind the mark
      have m1 := marks_set hi p true
      have l1 := owns_other hl (p := ⟨ib, p, none⟩) hicell (by decide) (.bool true)
      have cne : c ≠ ib := fun e => by subst e; rw [hblk] at hicell; injection hicell with e; injection e with _ e; exact absurd e (by decide)
      have b1 : (w.setCell ⟨ib, p, none⟩ (.bool true)).heap[c]? = some (.cells #[vl, .slice (some ⟨ib, 0, none⟩) d.2.length icap] 61) := (Below.heap_setCell _ _ _ _ cne).trans hblk
      have f1 : Fr crT B w (w.setCell ⟨ib, p, none⟩ (.bool true)) := (Fr.refl _ _ _).setCell hBi hicell (by decide) _
      have hm1 := hm.fr f1 (by decide) (by decide)
      have hs1 : (w.setCell ⟨ib, p, none⟩ (.bool true)).heap.size = w.heap.size := by simp
      have M1 := Lib.hid m1
      have L1 := Lib.hid l1
      have B1 := Lib.hid b1
      have F1 := Lib.hid f1
      have HM1 := Lib.hid hm1
      have HS1 := Lib.hid hs1
      have Hadd := Lib.hid hadd
      have Hoff := Lib.hid hoff
      have Hil := Lib.hid hil
      have HN := Lib.hid hn
      have HB := Lib.hid hB
      have Ih := Lib.hid ih
      clear ih hm hok hget hfro hi hl hicell hmark hv hblk hcell0 hib hBi himax h0' hc0 m1 l1 b1 f1 hm1 hs1 hadd hoff hil hn hB cne
      have hdl : d.2.length = (d.2.set p true).length := by simp
      rw [hdl] at hcell1 hicap hpl B1 M1
      have Hdl := Lib.hid hdl
      clear hdl
      go_enter Try.func30, Try.ntmps30
      go_upto_region 2 with fail
      generalize w.setCell ⟨ib, p, none⟩ (.bool true) = w1 at *
      have hcl1 : w1.cell? ⟨c, 0, none⟩ = some vl := by rw [cells_at B1.out]; rfl
      have hcf1 : w1.frozen? ⟨c, 0, none⟩ = false := by simp [World.frozen?, B1.out]
      have hbw : B ≤ w1.heap.size := by rw [HS1.out]; exact HB.out
      clear hcell1 hgp hfp
      go_upto_region 3 with (first
        | (refine wpList_append_nat rfl _ _ rfl B vl d.1.length (natsV d.1) rfl (L1.out.alloc _) w1.heap.size (p : Int) rfl (by rw [cells_at (World.alloc_heap_new w1 _)]; rfl) (by omega) (by simp; omega) ?_
           intro vl2 w2 hown2 hgrow2
           obtain ⟨la, lcap, hvl2⟩ := owns_form hown2
           subst hvl2
           have b2 := Lib.hid (block_kept ((Below.heap_alloc w1 _ c (lt_of_block B1.out)).trans B1.out) (L1.out.alloc _) hgrow2 (by decide))
           have hcf2 : w2.frozen? ⟨c, 0, none⟩ = false := by simp [World.frozen?, b2.out]
           have hcc2 : w2.cell? ⟨c, 0, none⟩ = some vl := by rw [cells_at b2.out]; rfl))
      -- the world behind the list
      have hbB := B1.out
      have m2 := owns_kept (M1.out.alloc (.cells #[.int .i64 (p : Int)] 3)) (L1.out.alloc _) hgrow2 (by decide)
      have m3 := owns_other m2 (p := ⟨c, 0, none⟩) b2.out (by decide) (.slice la (d.1.length + 1) lcap)
      have l3 := owns_other hown2 (p := ⟨c, 0, none⟩) b2.out (by decide) (.slice la (d.1.length + 1) lcap)
      have b3 : (w2.setCell ⟨c, 0, none⟩ (.slice la (d.1.length + 1) lcap)).heap[c]? = some (.cells #[.slice la (d.1.length + 1) lcap, .slice (some ⟨ib, 0, none⟩) (d.2.set p true).length icap] 61) := by
        simp [World.setCell, Array.getElem?_modify, b2.out]
      have f3 : Fr crT B w (w2.setCell ⟨c, 0, none⟩ (.slice la (d.1.length + 1) lcap)) := ((F1.out.alloc hbw _).grown (by simp; omega) (L1.out.alloc _) hgrow2 (by decide)).setCell hBc b2.out (by decide) _
      have hm3 := HM1.out.fr ((((Fr.refl crT B w1).alloc hbw (.cells #[.int .i64 (p : Int)] 3)).grown (by simp; omega) (L1.out.alloc _) hgrow2 (by decide)).setCell (p := ⟨c, 0, none⟩) hBc b2.out (by decide) (.slice la (d.1.length + 1) lcap)) (by decide) (by decide)
      have c3 : CrowdAt B (w2.setCell ⟨c, 0, none⟩ (.slice la (d.1.length + 1) lcap)) c (d.1 ++ [p], d.2.set p true) := ⟨hBc, .slice la (d.1.length + 1) lcap, _, b3, by simp only [List.length_append, List.length_cons, List.length_nil, natsV_snoc]; exact l3, m3⟩
      have hB3 : B ≤ (w2.setCell ⟨c, 0, none⟩ (.slice la (d.1.length + 1) lcap)).heap.size := Nat.le_trans HB.out f3.below.size
      clear m2 m3 l3 b3 hown2 hgrow2 b2 hcf2 hcc2 hcl1 hcf1 hbB L1 M1 B1 F1 HM1 HS1 hbw HB
      generalize w2.setCell ⟨c, 0, none⟩ (.slice la (d.1.length + 1) lcap) = w3 at *
      obtain ⟨sb, scap, d0, g1, g2, hsc, hsm, hsb, hst, g3, g4⟩ := hm3.open h0
      clear g1 g2 g3 g4
      have h7 := state7_of hst hp
      have hsl : decide ((p : Int) < S.length) = true := by simp; omega
      have F3 := Lib.hid f3
      have HM3 := Lib.hid hm3
      have C3 := Lib.hid c3
      clear f3 hm3 c3 hst
      go_upto_region 4 with (first
        | (refine wpList_load_state rfl _ rfl sb (p * 7) (stVals S[p]) rfl h7 ?_)
        | (refine wpList_store_state rfl _ _ rfl w3.heap.size _ (stVals S[p]).toArray rfl rfl (World.alloc_heap_new w3 _) rfl rfl (by simp [stVals, Value.oneCell']) ?_; intro w4 hx4 ho4; have Hx4 := Lib.hid hx4; have Ho4 := Lib.hid ho4; clear hx4 ho4; simp only [Act.put]))
      have hx4 := Hx4.out
      have ho4 := Ho4.out
      clear Hx4 Ho4
      have b34 := only_new_below ho4 ((Below.refl w3.heap.size w3).alloc (Nat.le_refl _) _) (Nat.le_refl _)
      have hm4 := HM3.out.below b34
      have c4 := C3.out.below b34
      have f4 := F3.out.trans (Fr.of_below b34 hB3)
      have hB4 : B ≤ w4.heap.size := Nat.le_trans hB3 b34.size
      obtain ⟨hn1, hn2, hset⟩ := hw _ (List.getElem_mem hp)
      clear hset
      have e0 : w4.cell? ⟨w3.heap.size, 0, none⟩ = some (.bool S[p].fork) := by rw [cells_at hx4]; rfl
      have e5 : w4.cell? ⟨w3.heap.size, 5, none⟩ = some (.int .i64 (S[p].next : Int)) := by rw [cells_at hx4]; rfl
      have e6 : w4.cell? ⟨w3.heap.size, 6, none⟩ = some (.int .i64 (S[p].other : Int)) := by rw [cells_at hx4]; rfl
      have HD2 := HD.out
      have hfuel : off (d.2.set p true) < n := by have := Hoff.out; have := HN.out; omega
      have hent := enter_ok hw n (d.1 ++ [p], d.2.set p true) S[p].next Hadd.out hn1 hfuel
      have hcall1 := Ih.out (d.1 ++ [p], d.2.set p true) S[p].next w4 hm4 c4 Hadd.out hn1 hfuel hB4
      have hcall2 := fun w => Ih.out (enterM n S (d.1 ++ [p], d.2.set p true) S[p].next) S[p].other w
      have hx4' := hx4
      rw [show (stVals S[p]).toArray = #[.bool S[p].fork, .int .u64 (word S[p].set 0), .int .u64 (word S[p].set 1), .int .u64 (word S[p].set 2), .int .u64 (word S[p].set 3), .int .i64 S[p].next, .int .i64 S[p].other] from rfl] at hx4'
      have HD2 := Lib.hid HD2
      have Hent := Lib.hid hent
      have Hcall1 := Lib.hid hcall1
      have Hcall2 := Lib.hid hcall2
      have F4 := Lib.hid f4
      have HM4 := Lib.hid hm4
      have C4 := Lib.hid c4
      have X4 := Lib.hid hx4'
      clear hx4 hx4' ho4 h7 hcall1 hcall2 hent hm4 c4 f4 b34 HD Ih F3 HM3 C3 d0 hsb hsl hsc hsm
      by_cases hf : S[p].fork = true
      rotate_left 1
      · have hD2 := HD2.out
        rw [if_neg hf] at hD2
        rw [Bool.not_eq_true] at hf
        rw [hf] at e0
        have C4' := C4.out
        rw [← hD2] at C4'
        have C5 := Lib.hid C4'
        clear Hcall1 Hcall2 HD2 hf Hent C4 C4' hD2 e5 e6 hfuel hn1 hn2
        go_wp2_with fail
        exact bodyPost_ret (v := .tuple #[]) (by simp [results, Try.results30, go_sem]) rfl ⟨rfl, C5.out, F4.out⟩
      · have hD2 := HD2.out
        rw [if_pos hf] at hD2
        rw [hf] at e0
        have HD3 := Lib.hid hD2
        clear hD2 HD2
        go_wp2_with fail
        refine Hcall1.out.mono ?_
        rintro e w5 ⟨rfl, c5, f5⟩
        have x5 := f5.keep _ _ _ _ X4.out (by decide)
        have e65 : w5.cell? ⟨w3.heap.size, 6, none⟩ = some (.int .i64 (S[p].other : Int)) := by rw [cells_at x5]; rfl
        have hm5 := HM4.out.fr f5 (by decide) (by decide)
        have Hc2 := Lib.hid (Hcall2.out w5 hm5 c5 Hent.out.ok hn2 (Nat.lt_of_le_of_lt Hent.out.mono hfuel) (Nat.le_trans hB4 f5.below.size))
        have F5 := Lib.hid (F4.out.trans f5)
        clear c5 f5 x5 hm5 Hcall1 Hcall2 e0 e5 e6 hfuel hn1 hn2
        go_wp2_with fail
        refine Hc2.out.mono ?_
        rintro e w6 ⟨rfl, c6, f6⟩
        rw [← HD3.out] at c6
        have F6 := Lib.hid (F5.out.trans f6)
        have C6 := Lib.hid c6
        clear c6 f6 HD3 Hc2
        go_wp2_with fail
        exact bodyPost_ret (v := .tuple #[]) (by simp [results, Try.results30, go_sem]) rfl ⟨rfl, C6.out, F6.out⟩
end K
end Go.Proofs.Ytobhjfhmhhahoaa
