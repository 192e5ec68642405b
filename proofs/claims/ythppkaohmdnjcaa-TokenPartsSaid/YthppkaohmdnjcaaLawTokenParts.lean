/- The walk of the law on texts one behind the other. -/
import Derived.Test.YthppkaohmdnjcaaTokenNumText
namespace Go.Proofs.Ythppkaohmdnjcaa
open Go.RowKit
theorem cut_err : ∀ (f at_ : Nat) (q : List Nat) (p : Nat × Nat), (cutFrom cls f at_ q).1 = some p → p.2 ≠ 0
  | 0, _, _, _, h => by simp [cutFrom] at h
  | f + 1, _, [], _, h => by simp [cutFrom] at h
  | f + 1, at_, x :: r, p, h => by
    unfold cutFrom at h
    cases ht : tokOf cls x r with
    | bad e =>
      rw [ht] at h
      simp only [Option.some.injEq] at h
      rw [← h]
      exact tokOf_err ht
    | ok t rest =>
      rw [ht] at h
      exact cut_err f _ rest p h
/-- a token out of a list in memory -/
theorem toks_get {w : World} {a : Option Addr} {n cap : Nat} {L : List (Tok × Nat)} (h : ToksAt w (.slice a n cap) L) : n = L.length ∧ ∀ i (hi : i < L.length), ∃ g, a = some ⟨g, 0, none⟩ ∧ L.length ≤ cap ∧ g < w.heap.size ∧ Tok8 w g (i * 8) (L[i]).1 ((L[i]).2 : Nat) := by
  obtain ⟨a', cap', e, h⟩ := h
  injection e with e1 e2 e3
  subst e1 e2 e3
  refine ⟨rfl, fun i hi => ?_⟩
  rcases h with h | ⟨g, e1, e2, e3, e4⟩
  · rw [h] at hi; simp at hi
  · exact ⟨g, e1, e2, e3, e4 i hi⟩
theorem whole_from (a : ByteArray) (h1 : ∀ h : 0 < a.size, ¬ (((a[a.size - 1]'(by omega)).toNat : Int) = 40)) (h2 : 1 < a.size → ((a.extract (a.size - 2) a.size).toList == [40, 63]) = false) : wholeEnd (nats a) := by
  refine ⟨?_, ?_⟩
  · rintro ⟨p, hp⟩
    have hl := nats_length a
    rw [← hp, List.length_append, List.length_singleton] at hl
    have h0 : 0 < a.size := by omega
    have h3 : ∀ k (hk : k < a.size), k = a.size - 1 → ¬ (((a[k]'hk).toNat : Int) = 40) := by
      rintro k hk rfl; exact h1 h0
    have hg := nats_at a p.length
    have hk : p.length < a.size := by omega
    rw [dif_pos hk, ← hp, List.getElem?_append_right (Nat.le_refl _), Nat.sub_self] at hg
    simp only [List.getElem?_cons_zero, Option.some.injEq] at hg
    exact h3 p.length hk (by omega) (by omega)
  · rintro ⟨p, hp⟩
    have hl := nats_length a
    rw [← hp, List.length_append, List.length_cons, List.length_singleton] at hl
    have h3 := h2 (by omega)
    have hx : nats (a.extract (a.size - 2) a.size) = [40, 63] := by
      rw [nats_extract, ← hp, show a.size - 2 = p.length from by omega, List.drop_left]
    have hy : (a.extract (a.size - 2) a.size).toList = [40, 63] := by
      rw [Lib.toList_data, ← toBytes_nat (a.extract (a.size - 2) a.size).data.toList]
      exact congrArg toBytes hx
    rw [hy] at h3
    revert h3; decide
theorem tok_new (w : World) (t : Tok) (a : Int) : Tok8 (w.alloc (.cells #[.int .i64 t.kind, .int .u64 (word t.set 0), .int .u64 (word t.set 1), .int .u64 (word t.set 2), .int .u64 (word t.set 3), .int .i64 t.lo, .int .i64 t.hi, .int .i64 a] 39)) w.heap.size 0 t a := by
  intro j v hv
  have := toks_eight w w.heap.size rfl _ _ _ _ _ _ _ _ 39 j v hv
  rw [addr_at] at this
  exact this
theorem cut_both (a b : ByteArray) (La Lb : List (Tok × Nat)) (ha : cutAll cls (nats a) = (none, La)) (hb : cutAll cls (nats b) = (none, Lb)) (hw : wholeEnd (nats a)) : cutAll cls (nats (a ++ b)) = (none, La ++ moveToks a.size Lb) := by
  rw [nats_add, cutAll_append cls _ _ (by rw [ha]) hw, ha, hb, nats_length]
  rfl
theorem cut_few (a : ByteArray) (La : List (Tok × Nat)) (ha : cutAll cls (nats a) = (none, La)) : La.length ≤ a.size := by
  have := cut_length cls ((nats a).length + 1) 0 (nats a)
  rw [show cutFrom cls ((nats a).length + 1) 0 (nats a) = cutAll cls (nats a) from rfl, ha, nats_length] at this
  exact this
theorem cut_place : ∀ (f at_ : Nat) (q : List Nat), ∀ x ∈ (cutFrom cls f at_ q).2, x.2 < at_ + q.length
  | 0, _, _, x, hx => by simp [cutFrom] at hx
  | f + 1, _, [], x, hx => by simp [cutFrom] at hx
  | f + 1, at_, c :: r, x, hx => by
    cases ht : tokOf cls c r with
    | bad e => rw [cut_stop ht] at hx; simp at hx
    | ok t rest =>
      rw [cut_step ht] at hx
      have hs := (tokOf_suf cls c r t rest ht).length_le
      rcases List.mem_cons.mp hx with rfl | hx
      · simp
      · have := cut_place f _ rest x hx
        simp only [List.length_cons]
        omega
theorem cut_places (b : ByteArray) (Lb : List (Tok × Nat)) (hb : cutAll cls (nats b) = (none, Lb)) : ∀ x ∈ Lb, x.2 < b.size := by
  intro x hx
  have := cut_place ((nats b).length + 1) 0 (nats b) x
  rw [show cutFrom cls ((nats b).length + 1) 0 (nats b) = cutAll cls (nats b) from rfl, hb, nats_length, Nat.zero_add] at this
  exact this hx
theorem size_add (a b : ByteArray) : (a ++ b).size = a.size + b.size := by
  rw [← nats_length, nats_add, List.length_append, nats_length, nats_length]
set_option maxHeartbeats 8000000 in
set_option maxRecDepth 100000 in
theorem parts_bb (a b : ByteArray) (ha : a.size ≤ 300) (hb : b.size ≤ 300) (p : Nat × Nat) (La : List (Tok × Nat)) (h1 : cutAll cls (nats a) = (some p, La)) (q : Nat × Nat) (Lb : List (Tok × Nat)) (h2 : cutAll cls (nats b) = (some q, Lb)) (w : World) (hM : MaxAt w) : Calls Try.prog 4 #[.string a, .string b] w fun e w' => e = .returned (.bool true) ∧ Below w.heap.size w w' := by
  have i1 : (a.size : Int) ≤ 300 := by omega
  have i2 : (b.size : Int) ≤ 300 := by omega
  have hcutA := cut_refused a (by omega) p La h1
  have hp : ((p.2 : Int) != 0) = true := by have := cut_err _ _ _ p (show (cutFrom cls ((nats a).length + 1) 0 (nats a)).1 = some p from by rw [show cutFrom cls ((nats a).length + 1) 0 (nats a) = cutAll cls (nats a) from rfl, h1]); rw [bne_iff_ne]; omega
  have hcutB := cut_refused b (by omega) q Lb h2
  have hq : ((q.2 : Int) != 0) = true := by have := cut_err _ _ _ q (show (cutFrom cls ((nats b).length + 1) 0 (nats b)).1 = some q from by rw [show cutFrom cls ((nats b).length + 1) 0 (nats b) = cutAll cls (nats b) from rfl, h2]); rw [bne_iff_ne]; omega
  go_enter Try.func4, Try.ntmps4
  go_wp2_with fail
  refine (awake4_any _ hM).mono ?_
  rintro e w1 ⟨rfl, hb1⟩
  have M1 := maxAt_below hM hb1
  go_wp2_with fail
  all_goals try omega
  all_goals try (go_ret; exact ⟨rfl, hb1⟩)
  all_goals
    refine (hcutA _ M1).mono ?_
    rintro e w2 ⟨rfl, hc2⟩
    have B2 : Below w.heap.size w w2 := hb1.trans (hc2.mono hb1.size)
    have M2 := maxAt_below hM B2
    go_wp2_with fail
    all_goals try omega
    refine (hcutB _ M2).mono ?_
    rintro e w3 ⟨rfl, hc3⟩
    have B3 : Below w.heap.size w w3 := B2.trans (hc3.mono B2.size)
    have M3 := maxAt_below hM B3
    go_wp2_with fail
    all_goals try omega
    go_ret
    exact ⟨rfl, B3⟩
set_option maxHeartbeats 8000000 in
set_option maxRecDepth 100000 in
theorem parts_bg (a b : ByteArray) (ha : a.size ≤ 300) (hb : b.size ≤ 300) (p : Nat × Nat) (La : List (Tok × Nat)) (h1 : cutAll cls (nats a) = (some p, La)) (Lb : List (Tok × Nat)) (h2 : cutAll cls (nats b) = (none, Lb)) (w : World) (hM : MaxAt w) : Calls Try.prog 4 #[.string a, .string b] w fun e w' => e = .returned (.bool true) ∧ Below w.heap.size w w' := by
  have i1 : (a.size : Int) ≤ 300 := by omega
  have i2 : (b.size : Int) ≤ 300 := by omega
  have hcutA := cut_refused a (by omega) p La h1
  have hp : ((p.2 : Int) != 0) = true := by have := cut_err _ _ _ p (show (cutFrom cls ((nats a).length + 1) 0 (nats a)).1 = some p from by rw [show cutFrom cls ((nats a).length + 1) 0 (nats a) = cutAll cls (nats a) from rfl, h1]); rw [bne_iff_ne]; omega
  have hcutB := cut_good b (by omega) Lb h2
  go_enter Try.func4, Try.ntmps4
  go_wp2_with fail
  refine (awake4_any _ hM).mono ?_
  rintro e w1 ⟨rfl, hb1⟩
  have M1 := maxAt_below hM hb1
  go_wp2_with fail
  all_goals try omega
  all_goals try (go_ret; exact ⟨rfl, hb1⟩)
  all_goals
    refine (hcutA _ M1).mono ?_
    rintro e w2 ⟨rfl, hc2⟩
    have B2 : Below w.heap.size w w2 := hb1.trans (hc2.mono hb1.size)
    have M2 := maxAt_below hM B2
    go_wp2_with fail
    all_goals try omega
    refine (hcutB _ M2).mono ?_
    rintro e w3 ⟨vB, rfl, htB, hc3⟩
    have B3 : Below w.heap.size w w3 := B2.trans (hc3.mono B2.size)
    have M3 := maxAt_below hM B3
    obtain ⟨aB, capB, rfl, hAB⟩ := htB
    go_wp2_with fail
    all_goals try omega
    go_ret
    exact ⟨rfl, B3⟩
set_option maxHeartbeats 8000000 in
set_option maxRecDepth 100000 in
theorem parts_gb (a b : ByteArray) (ha : a.size ≤ 300) (hb : b.size ≤ 300) (La : List (Tok × Nat)) (h1 : cutAll cls (nats a) = (none, La)) (q : Nat × Nat) (Lb : List (Tok × Nat)) (h2 : cutAll cls (nats b) = (some q, Lb)) (w : World) (hM : MaxAt w) : Calls Try.prog 4 #[.string a, .string b] w fun e w' => e = .returned (.bool true) ∧ Below w.heap.size w w' := by
  have i1 : (a.size : Int) ≤ 300 := by omega
  have i2 : (b.size : Int) ≤ 300 := by omega
  have hcutA := cut_good a (by omega) La h1
  have hcutB := cut_refused b (by omega) q Lb h2
  have hq : ((q.2 : Int) != 0) = true := by have := cut_err _ _ _ q (show (cutFrom cls ((nats b).length + 1) 0 (nats b)).1 = some q from by rw [show cutFrom cls ((nats b).length + 1) 0 (nats b) = cutAll cls (nats b) from rfl, h2]); rw [bne_iff_ne]; omega
  go_enter Try.func4, Try.ntmps4
  go_wp2_with fail
  refine (awake4_any _ hM).mono ?_
  rintro e w1 ⟨rfl, hb1⟩
  have M1 := maxAt_below hM hb1
  go_wp2_with fail
  all_goals try omega
  all_goals try (go_ret; exact ⟨rfl, hb1⟩)
  all_goals
    refine (hcutA _ M1).mono ?_
    rintro e w2 ⟨vA, rfl, htA, hc2⟩
    have B2 : Below w.heap.size w w2 := hb1.trans (hc2.mono hb1.size)
    have M2 := maxAt_below hM B2
    obtain ⟨aA, capA, rfl, hAA⟩ := htA
    go_wp2_with fail
    all_goals try omega
    refine (hcutB _ M2).mono ?_
    rintro e w3 ⟨rfl, hc3⟩
    have B3 : Below w.heap.size w w3 := B2.trans (hc3.mono B2.size)
    have M3 := maxAt_below hM B3
    go_wp2_with fail
    all_goals try omega
    go_ret
    exact ⟨rfl, B3⟩
set_option maxHeartbeats 8000000 in
set_option maxRecDepth 100000 in
theorem parts_gg (a b : ByteArray) (ha : a.size ≤ 300) (hb : b.size ≤ 300) (La : List (Tok × Nat)) (h1 : cutAll cls (nats a) = (none, La)) (Lb : List (Tok × Nat)) (h2 : cutAll cls (nats b) = (none, Lb)) (w : World) (hM : MaxAt w) : Calls Try.prog 4 #[.string a, .string b] w fun e w' => e = .returned (.bool true) ∧ Below w.heap.size w w' := by
  have i1 : (a.size : Int) ≤ 300 := by omega
  have i2 : (b.size : Int) ≤ 300 := by omega
  have hcutA := cut_good a (by omega) La h1
  have hcutB := cut_good b (by omega) Lb h2
  go_enter Try.func4, Try.ntmps4
  go_wp2_with fail
  refine (awake4_any _ hM).mono ?_
  rintro e w1 ⟨rfl, hb1⟩
  have M1 := maxAt_below hM hb1
  go_wp2_with fail
  all_goals try omega
  all_goals try (go_ret; exact ⟨rfl, hb1⟩)
  all_goals
    have hw : wholeEnd (nats a) := whole_from a (fun h => by first | assumption | omega) (fun h => by first | omega | (have := ‹(_ ∧ _) ∧ (_ == _) = false›; exact this.2))
    have hboth := cut_both a b La Lb h1 h2 hw
    obtain ⟨Lz, hLz⟩ : ∃ Lz, Lz = La ++ moveToks a.size Lb := ⟨_, rfl⟩
    rw [← hLz] at hboth
    have hcutC := cut_good (a ++ b) (by rw [size_add]; omega) _ hboth
    have hlen : Lz.length = La.length + Lb.length := by rw [hLz, List.length_append]; simp [moveToks]
    have hla : La.length ≤ 300 := Nat.le_trans (cut_few a La h1) ha
    have hlb : Lb.length ≤ 300 := Nat.le_trans (cut_few b Lb h2) hb
    have hpl := Lib.hid (cut_places b Lb h2)
    have hne : ((Lz.length : Int) != (La.length : Int) + (Lb.length : Int)) = false := by rw [bne_eq_false_iff_eq]; omega
    have HLz := Lib.hid hLz
    have Hlen := Lib.hid hlen
    clear hw hboth hLz hlen h1 h2
    refine (hcutA _ M1).mono ?_
    rintro e w2 ⟨vA, rfl, htA, hc2⟩
    have B2 : Below w.heap.size w w2 := hb1.trans (hc2.mono hb1.size)
    have M2 := maxAt_below hM B2
    obtain ⟨aA, capA, rfl, hAA⟩ := htA
    go_wp2_with fail
    all_goals try omega
    refine (hcutB _ M2).mono ?_
    rintro e w3 ⟨vB, rfl, htB, hc3⟩
    have B3 : Below w.heap.size w w3 := B2.trans (hc3.mono B2.size)
    have M3 := maxAt_below hM B3
    obtain ⟨aB, capB, rfl, hAB⟩ := htB
    go_wp2_with fail
    all_goals try omega
    refine (hcutC _ M3).mono ?_
    rintro e w4 ⟨vC, rfl, tC, hc4⟩
    have B4 : Below w.heap.size w w4 := B3.trans (hc4.mono B3.size)
    have tA : ToksAt w4 (.slice aA La.length capA) La := ToksAt.below ⟨_, _, rfl, hAA⟩ (hc3.trans (hc4.mono hc3.size)) rfl
    have tB : ToksAt w4 (.slice aB Lb.length capB) Lb := ToksAt.below ⟨_, _, rfl, hAB⟩ hc4 rfl
    obtain ⟨aC, capC, rfl, hAC⟩ := tC
    have tC : ToksAt w4 (.slice aC Lz.length capC) Lz := ⟨_, _, rfl, hAC⟩
    clear hAA hAB hAC hc2 hc3 hc4 M1 M2 M3 B2 B3 hb1 hcutA hcutB hcutC
    have HA := Lib.hid tA
    have HB := Lib.hid tB
    have HC := Lib.hid tC
    clear tA tB tC
    go_wp2_with fail
    all_goals try omega
    go_loopw [14] (fun i wr => ∃ k : Nat, i = .int .i64 k ∧ k ≤ Lz.length ∧ Below w4.heap.size w4 wr) (fun i _ => Lz.length - (intOf i).toNat)
    case atStart => exact ⟨0, rfl, Nat.zero_le _, Below.refl _ _⟩
    case round =>
      obtain ⟨k, rfl, hk, hr⟩ := hrel
      by_cases hkn : k < Lz.length
      · have hd : decide ((k : Int) < Lz.length) = true := by simp; omega
        obtain ⟨gz, rfl, hcz, hgz, hz⟩ := (toks_get HC.out).2 k hkn
        have hgzr : gz < wr.heap.size := Nat.lt_of_lt_of_le hgz hr.size
        have hkb : k ≤ 600 := by have := Hlen.out; omega
        by_cases hkA : k < La.length
        · have hd2 : decide ((k : Int) < La.length) = true := by simp; omega
          have hd3 : decide ((La.length : Int) ≤ k) = false := by simp; omega
          obtain ⟨gx, rfl, hcx, hgx, hx⟩ := (toks_get HA.out).2 k hkA
          have hgxr : gx < wr.heap.size := Nat.lt_of_lt_of_le hgx hr.size
          have hsame : Lz[k] = La[k] := by
            have : Lz[k]? = La[k]? := by rw [HLz.out, List.getElem?_append_left hkA]
            rw [List.getElem?_eq_getElem hkn, List.getElem?_eq_getElem hkA] at this
            injection this
          rw [hsame] at hz
          generalize La[k] = T at hz hx
          obtain ⟨t, p⟩ := T
          simp only at hz hx
          generalize (p : Int) = p at hz hx
          have hlz : ∀ w', (∃ L : Later wr, w' = L.val) → Tok8 w' gz (k * 8) t p := fun w' hw' => by obtain ⟨L, rfl⟩ := hw'; exact (hz.below hr hgz).below L.ok hgzr
          have hlx : ∀ w', (∃ L : Later wr, w' = L.val) → Tok8 w' gx (k * 8) t p := fun w' hw' => by obtain ⟨L, rfl⟩ := hw'; exact (hx.below hr hgx).below L.ok hgxr
          have heq := fun w => eql_tok t p w
          have hne' := Later.nonempty wr
          clear hz hx hsame
          go_wp2_with fail
          refine wp_region_later (W0 := wr) (Below.refl _ _) (by kernel_rfl) (by as_aux_lemma => kernel_rfl) ?_
          iterate 8 (go_big_quiet_step (fail))
          go_big_quiet_want
          refine quiet_load_tok _ rfl gz (k * 8) t p rfl hlz ?_
          go_big_quiet_on
          simp only [Act.put, List.setIfInBounds_toArray, List.set_cons_zero, List.set_cons_succ]
          iterate 3 (go_big_quiet_step (fail))
          go_big_quiet_want
          refine quiet_load_tok _ rfl gx (k * 8) t p rfl hlx ?_
          go_big_quiet_on
          simp only [Act.put, List.setIfInBounds_toArray, List.set_cons_zero, List.set_cons_succ]
          repeat (go_big_quiet_step (fail))
          refine wpQuiet_nil ?_
          intro w' hw'
          obtain ⟨L', rfl⟩ := hw'
          have h5 := hr.trans (L'.ok.mono hr.size)
          go_wp2_with fail
          go_roundw
          case rel => exact ⟨k + 1, by go_num, by omega, h5⟩
          case measure => simp [intOf]; omega
        · have hd2 : decide ((k : Int) < La.length) = false := by simp; omega
          have hd3 : decide ((La.length : Int) ≤ k) = true := by simp; omega
          obtain ⟨j, hj⟩ : ∃ j, j = k - La.length := ⟨_, rfl⟩
          have hjl : j < Lb.length := by have := Hlen.out; omega
          have hsub : (k : Int) - (La.length : Int) = (j : Int) := by omega
          obtain ⟨gy, rfl, hcy, hgy, hy⟩ := (toks_get HB.out).2 j hjl
          have hgyr : gy < wr.heap.size := Nat.lt_of_lt_of_le hgy hr.size
          have hsame : Lz[k] = (Lb[j].1, Lb[j].2 + a.size) := by
            have : Lz[k]? = some (Lb[j].1, Lb[j].2 + a.size) := by
              rw [HLz.out, List.getElem?_append_right (by omega), ← hj]
              simp [moveToks, List.getElem?_eq_getElem hjl]
            rw [List.getElem?_eq_getElem hkn] at this
            injection this
          have hpb : Lb[j].2 ≤ 300 := by have := hpl.out _ (List.getElem_mem hjl); omega
          rw [hsame] at hz
          generalize Lb[j] = T at hz hy hpb
          obtain ⟨t, p⟩ := T
          simp only at hz hy hpb
          have hy4 : Tok8 wr gy (j * 8) t (p : Nat) := hy.below hr hgy
          have hz4 : Tok8 wr gz (k * 8) t (p + a.size : Nat) := hz.below hr hgz
          have hne' := Later.nonempty wr
          have HJ := Lib.hid hj
          clear hz hy hsame hj
          go_wp2_with fail
          refine wp_region_later (W0 := wr) (Below.refl _ _) (by kernel_rfl) (by as_aux_lemma => kernel_rfl) ?_
          repeat (go_big_quiet_step (fail))
          refine wpQuiet_nil ?_
          intro w' hw'
          obtain ⟨L', rfl⟩ := hw'
          have h5 := hr.trans (L'.ok.mono hr.size)
          have hy5 := hy4.below L'.ok hgyr
          have hz5 := hz4.below L'.ok hgzr
          have hgz5 : gz < L'.val.heap.size := Nat.lt_of_lt_of_le hgzr L'.ok.size
          generalize L'.val = w5 at *
          clear L' hy4 hz4
          go_wp2_with (first
            | (refine wpList_load_tok rfl _ rfl gy (j * 8) t p rfl hy5 ?_)
            | fail)
          have hnew := tok_new w5 t ((p : Int) + (a.size : Int))
          have hz6 := hz5.below ((Below.refl w5.heap.size w5).alloc (Nat.le_refl _) (.cells #[.int .i64 t.kind, .int .u64 (word t.set 0), .int .u64 (word t.set 1), .int .u64 (word t.set 2), .int .u64 (word t.set 3), .int .i64 t.lo, .int .i64 t.hi, .int .i64 ((p : Int) + (a.size : Int))] 39)) hgz5
          have h6 := h5.alloc h5.size (.cells #[.int .i64 t.kind, .int .u64 (word t.set 0), .int .u64 (word t.set 1), .int .u64 (word t.set 2), .int .u64 (word t.set 3), .int .i64 t.lo, .int .i64 t.hi, .int .i64 ((p : Int) + (a.size : Int))] 39)
          have hs6 : w5.heap.size < (w5.alloc (.cells #[.int .i64 t.kind, .int .u64 (word t.set 0), .int .u64 (word t.set 1), .int .u64 (word t.set 2), .int .u64 (word t.set 3), .int .i64 t.lo, .int .i64 t.hi, .int .i64 ((p : Int) + (a.size : Int))] 39)).heap.size := by simp
          rw [show ((p + a.size : Nat) : Int) = (p : Int) + (a.size : Int) from by omega] at hz6
          generalize w5.alloc (.cells #[.int .i64 t.kind, .int .u64 (word t.set 0), .int .u64 (word t.set 1), .int .u64 (word t.set 2), .int .u64 (word t.set 3), .int .i64 t.lo, .int .i64 t.hi, .int .i64 ((p : Int) + (a.size : Int))] 39) = w6 at hnew hz6 h6 hs6 ⊢
          generalize (p : Int) + (a.size : Int) = pa at hnew hz6
          have hg6 : gz < w6.heap.size := Nat.lt_trans hgz5 hs6
          have hlz : ∀ w', (∃ L : Later w6, w' = L.val) → Tok8 w' gz (k * 8) t pa := fun w' hw' => by obtain ⟨L, rfl⟩ := hw'; exact hz6.below L.ok hg6
          have hlx : ∀ w', (∃ L : Later w6, w' = L.val) → Tok8 w' w5.heap.size 0 t pa := fun w' hw' => by obtain ⟨L, rfl⟩ := hw'; exact hnew.below L.ok hs6
          have heq := fun w => eql_tok t pa w
          have hne6 := Later.nonempty w6
          clear hy5 hz5 hz6 hnew
          refine wp_region_later (W0 := w6) (Below.refl _ _) (by kernel_rfl) (by as_aux_lemma => kernel_rfl) ?_
          iterate 3 (go_big_quiet_step (fail))
          go_big_quiet_want
          refine quiet_load_tok _ rfl gz (k * 8) t pa rfl hlz ?_
          go_big_quiet_on
          simp only [Act.put, List.setIfInBounds_toArray, List.set_cons_zero, List.set_cons_succ]
          go_big_quiet_want
          refine quiet_load_tok _ rfl w5.heap.size 0 t pa rfl hlx ?_
          go_big_quiet_on
          simp only [Act.put, List.setIfInBounds_toArray, List.set_cons_zero, List.set_cons_succ]
          repeat (go_big_quiet_step (fail))
          refine wpQuiet_nil ?_
          intro w' hw'
          obtain ⟨L', rfl⟩ := hw'
          have h7 := h6.trans (L'.ok.mono h6.size)
          go_wp2_with fail
          go_roundw
          case rel => exact ⟨k + 1, by go_num, by omega, h7⟩
          case measure => simp [intOf]; omega
      · obtain rfl : k = Lz.length := by omega
        have hd : decide ((Lz.length : Int) < Lz.length) = false := by simp
        go_wp2_with fail
        go_ret
        exact ⟨rfl, B4.trans (hr.mono B4.size)⟩
set_option maxHeartbeats 4000000 in
set_option maxRecDepth 100000 in
theorem parts_over (a b : ByteArray) (h : 300 < a.size ∨ 300 < b.size) (w : World) (hM : MaxAt w) : Calls Try.prog 4 #[.string a, .string b] w fun e w' => e = .returned (.bool true) ∧ Below w.heap.size w w' := by
  have Hh := Lib.hid h
  clear h
  go_enter Try.func4, Try.ntmps4
  go_wp2_with fail
  refine (awake4_any _ hM).mono ?_
  rintro e w1 ⟨rfl, hb1⟩
  go_wp2_with fail
  all_goals first
    | (go_ret; exact ⟨rfl, hb1⟩)
    | (exfalso; have := Hh.out; simp_all; omega)
theorem tokenParts_walk (a b : ByteArray) (w : World) (hM : MaxAt w) : Calls Try.prog 4 #[.string a, .string b] w fun e w' => e = .returned (.bool true) ∧ Below w.heap.size w w' := by
  by_cases h : 300 < a.size ∨ 300 < b.size
  · exact parts_over a b h w hM
  · have ha : a.size ≤ 300 := by omega
    have hb : b.size ≤ 300 := by omega
    cases h1 : cutAll cls (nats a) with
    | mk ea La =>
      cases h2 : cutAll cls (nats b) with
      | mk eb Lb =>
        cases ea with
        | none =>
          cases eb with
          | none => exact parts_gg a b ha hb La h1 Lb h2 w hM
          | some q => exact parts_gb a b ha hb La h1 q Lb h2 w hM
        | some p =>
          cases eb with
          | none => exact parts_bg a b ha hb p La h1 Lb h2 w hM
          | some q => exact parts_bb a b ha hb p La h1 q Lb h2 w hM
end Go.Proofs.Ythppkaohmdnjcaa
