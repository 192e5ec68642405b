/- The law RankBest, walked: any list of values of at most so many parts. -/
import Derived.Test.YtkekdfelcfoilaaRankLaw
import Derived.Test.YtkekdfelcfoilaaRankBest
import Derived.Deep.DeepCutAuto
namespace Go.Proofs.Ytkekdfelcfoilaa
namespace V
set_option maxRecDepth 100000
open Go.RowKit
theorem info_v3 : (Try.prog.info? 25).map (fun i => (i.zero, i.size, i.bytes)) = some (some (.agg #[.int .i64 0, .int .u8 0, .slice none 0 0]), 3, 40) := by kernel_rfl
theorem wpList_append_v {ops : Array Oper} {rest : List Oper} {o : Oper} {a : Act} {w : World} {Q : Exit → Act → World → Prop} (hgd : o.guard = none) (s x : Operand)
    (ho : o.op = .call { callee := .builtin .append, args := #[s, x], argTypes := #[23, 23] })
    (base : Nat) (v : Value) (n : Nat) (xs : List Value) (hs : a.eval s = v) (hown : w.ownsRow base 25 3 v n xs) (b : Nat) (cs : List Value) (hx : a.eval x = .slice (some ⟨b, 0, none⟩) 1 1) (hc : Val3 w b 0 cs)
    (h1 : ∀ u ∈ cs, u.oneCell' = true) (hn : n < 400000000000) (hbase : base ≤ w.heap.size)
    (h : ∀ v' w', w'.ownsRow base 25 3 v' (n + 1) (xs ++ cs) → w.grownBy w' v.ownBlock → (v'.ownBlock = v.ownBlock ∨ v'.ownBlock = some w.heap.size) → wpList Try.prog ops Q rest (a.put o.dst v') w') : wpList Try.prog ops Q (o :: rest) a w := by
  obtain ⟨i0, hi, hz0, hz1, hz2⟩ := info_parts info_v3
  have hnews : ∀ j u, cs[j]? = some u → w.cell? ((⟨b, 0, none⟩ : Addr).add j) = some u := by
    intro j u hj
    have hjl : j < 3 := by rw [← hc.1]; exact (List.getElem?_eq_some_iff.1 hj).1
    rw [addr_at, hc.2 j hjl, hj]
  obtain ⟨v', w', hr, h2, h3, _, h5⟩ := run_append_own_at (P := Try.prog) (w := w) base 23 o.type 25 i0 (.agg #[.int .i64 0, .int .u8 0, .slice none 0 0]) 3 40 Try.underlying23 hi hz0 hz1 hz2 rfl (by decide) v n xs hown ⟨b, 0, none⟩ 1 1 cs (by rw [hc.1]) hnews h1 (by unfold maxLen; omega) (by omega) hbase
  refine wpList_plain hgd fun _ hK => ?_
  unfold Oper.wp execOp
  simp only [ho, resolve, invoke, builtin, Sem.run_bind, Sem.run_pure, Result.andThen_ok, List.map_toArray, List.map_cons, List.map_nil, hs, hx, hr]
  exact hK _ _ (h v' w' h2 h3 h5)
theorem owned_list {w : World} {base : Nat} {v : Value} {acc : List (Vl × List Value)} (ho : w.ownsRow base 25 3 v acc.length (acc.flatMap (·.2))) (h : ∀ p ∈ acc, Vl.at w p.1 p.2) (hn : acc.length ≤ maxLen) : ListAt w (acc.map (·.1)) v := by
  have hlen : (acc.map (·.1)).length = acc.length := List.length_map ..
  rcases ho.2 with ⟨rfl, h0⟩ | ⟨q, cap, cur, rfl, hb, hg, hc, hm, hs, htake⟩
  · exact ⟨none, 0, by rw [hlen, h0], by rw [hlen]; exact hn, .inl (by rw [hlen]; exact h0)⟩
  · refine ⟨some ⟨q, 0, none⟩, cap, by rw [hlen], by rw [hlen]; exact hn, .inr ⟨q, 0, rfl, by rw [hlen]; exact hc, (Array.getElem?_eq_some_iff.1 hg).1, ?_⟩⟩
    refine valsAt_cells acc 0 h fun j hj => ?_
    have hl := ho.1
    obtain ⟨u, hu⟩ : ∃ u, (acc.flatMap (·.2))[j]? = some u := ⟨_, List.getElem?_eq_getElem (by omega)⟩
    have := ho.cells (g := q) rfl j u hu
    rw [addr_at] at this
    rw [this, hu]
/-- turned: the first j of a list, from place q on -/
def turnL (L : List Vl) (q j : Nat) : List Vl := (List.range j).map fun t => L.getD ((t + q) % L.length) (.mk 0 0 [])
theorem turnL_succ (L : List Vl) (q j : Nat) : turnL L q (j + 1) = turnL L q j ++ [L.getD ((j + q) % L.length) (.mk 0 0 [])] := by
  unfold turnL
  rw [List.range_succ, List.map_append]; rfl
theorem turnL_len (L : List Vl) (q j : Nat) : (turnL L q j).length = j := by simp [turnL]
theorem turnL_mem {L : List Vl} {q j : Nat} (h0 : 0 < L.length) {x : Vl} (hx : x ∈ turnL L q j) : x ∈ L := by
  unfold turnL at hx
  rw [List.mem_map] at hx
  obtain ⟨t, _, rfl⟩ := hx
  have h := Nat.mod_lt (t + q) h0
  rw [List.getD_eq_getElem?_getD, List.getElem?_eq_getElem h]
  exact List.getElem_mem h
theorem mem_turnL {L : List Vl} {q : Nat} (hq : q < L.length) {x : Vl} (hx : x ∈ L) : x ∈ turnL L q L.length := by
  obtain ⟨i, hi, rfl⟩ := List.getElem_of_mem hx
  unfold turnL
  rw [List.mem_map]
  refine ⟨(i + (L.length - q)) % L.length, List.mem_range.2 (Nat.mod_lt _ (by omega)), ?_⟩
  have e : ((i + (L.length - q)) % L.length + q) % L.length = i := by
    rw [Nat.mod_add_mod, show i + (L.length - q) + q = i + L.length from by omega, Nat.add_mod_right, Nat.mod_eq_of_lt hi]
  rw [e, List.getD_eq_getElem?_getD, List.getElem?_eq_getElem hi]; rfl
theorem best_alike {L M : List Vl} (hs : ∀ x ∈ L, Small x) (h1 : ∀ x ∈ M, x ∈ L) (h2 : ∀ x ∈ L, x ∈ M) {i k : Nat} (hi : Best L i) (hk : Best M k) {x y : Vl} (hx : L[i]? = some x) (hy : M[k]? = some y) : ord x y = 0 := by
  obtain ⟨x', e1, g1, _⟩ := hi
  obtain ⟨y', e2, g2, _⟩ := hk
  rw [hx] at e1
  rw [hy] at e2
  cases e1
  cases e2
  have mx := List.mem_of_getElem? hx
  have my := List.mem_of_getElem? hy
  obtain ⟨a, ha⟩ := List.getElem?_of_mem (h1 y my)
  obtain ⟨b, hb⟩ := List.getElem?_of_mem (h2 x mx)
  have h3 := g1 a y ha
  have h4 := g2 b x hb
  have h5 := ord_turn (hs x mx) (hs y (h1 y my))
  omega
theorem wrap_small {n q j : Nat} (h : 1 ≤ n ∧ n ≤ 12 ∧ q < n) (hj : j ≤ n) : wrap64 ((j : Int) + (q : Int)) = ((j + q : Nat) : Int) := by unfold wrap64; omega
theorem own_below {w w' : World} {B size n : Nat} {e : TypeId} {v : Value} {xs : List Value} (h : w.ownsRow B e size v n xs) (hb : Below w.heap.size w w') : w'.ownsRow B e size v n xs :=
  h.kept (row := some w.heap.size) ⟨hb.os, hb.tape, hb.output, hb.size, fun q hq _ => hb.block q hq⟩ (.inr fun e => by have := (h.lt _ e).2; omega)
theorem bt2 {a b c : World} (h : Below a.heap.size a b) (h' : Below b.heap.size b c) : Below a.heap.size a c := h.trans (h'.mono h.size)
theorem at_later2 {w w' : World} {x : Vl} {cs : List Value} (h : Vl.at w x cs) (hb : Below w.heap.size w w') : Vl.at w' x cs := Vl.at_below hb (Nat.le_refl _) _ _ h
set_option maxHeartbeats 64000000 in
theorem rankBest_walk (a0 : Option Addr) (cap0 : Nat) (L : List Vl) (turn : Int) (wf : fits64 turn) (w : World) (hL : ListAt w L (.slice a0 L.length cap0)) (hsm : counts L ≤ 1048576) :
    Calls Try.prog 7 #[.slice a0 L.length cap0, .int .i64 turn] w fun e w' => e = .returned (.bool true) ∧ Below w.heap.size w w' := by
  have hs : ∀ x ∈ L, Small x := fun x hx => by have := counts_mem hx; show x.count ≤ 1048576; omega
  obtain ⟨n, hn⟩ : ∃ n, n = L.length := ⟨_, rfl⟩
  have hL0 := hL
  rw [← hn] at hL0 ⊢
  have HN := Lib.hid hn
  have HL := Lib.hid hL0
  have Hs := Lib.hid hs
  obtain ⟨a', cap', he, hmax, hl⟩ := hL
  rw [← hn] at hl
  injection he with ea _ ec
  subst ea ec
  have Hl := Lib.hid hl
  clear hsm hL0 hmax hl hs hn
  by_cases hn1 : n < 1
  · have d1 : decide ((n : Int) < 1) = true := by simp; omega
    clear hn1
    go_enter Try.func7, Try.ntmps7
    go_wp2_with fail
    refine (awake13_any w).mono ?_
    rintro e w1 ⟨rfl, hb1⟩
    have Hb1 := Lib.hid hb1
    clear hb1
    go_wp2_with fail
    go_ret
    exact ⟨rfl, Hb1.out⟩
  have d1 : decide ((n : Int) < 1) = false := by simp; omega
  by_cases hn2 : 12 < n
  · have d2 : decide ((12 : Int) < n) = true := by simp; omega
    have d3 : decide ((n : Int) > 12) = true := d2
    clear hn1 hn2
    go_enter Try.func7, Try.ntmps7
    go_wp2_with fail
    refine (awake13_any w).mono ?_
    rintro e w1 ⟨rfl, hb1⟩
    have Hb1 := Lib.hid hb1
    clear hb1
    go_wp2_with fail
    go_ret
    exact ⟨rfl, Hb1.out⟩
  have d2 : decide ((12 : Int) < n) = false := by simp; omega
  have d3 : decide ((n : Int) > 12) = false := d2
  by_cases ht : turn < 0
  · have d4 : decide (turn < 0) = true := by simp; omega
    clear hn1 hn2 ht
    go_enter Try.func7, Try.ntmps7
    go_wp2_with fail
    refine (awake13_any w).mono ?_
    rintro e w1 ⟨rfl, hb1⟩
    have Hb1 := Lib.hid hb1
    clear hb1
    go_wp2_with fail
    go_ret
    exact ⟨rfl, Hb1.out⟩
  have d4 : decide (turn < 0) = false := by simp; omega
  obtain ⟨q, hq⟩ : ∃ q : Nat, turn % (n : Int) = (q : Int) := ⟨(turn % (n : Int)).toNat, by have := Int.emod_nonneg turn (show (n : Int) ≠ 0 by omega); omega⟩
  have hqlt : q < n := by have := Int.emod_lt_of_pos turn (show (0 : Int) < (n : Int) by omega); omega
  have hqt : Int.tmod turn (n : Int) = (q : Int) := by rw [Int.tmod_eq_emod_of_nonneg (by omega), hq]
  have hn0 : (n : Int) ≠ 0 := by omega
  have dn0 : ((n : Int) == 0) = false := by simp; omega
  have HB : Hid (1 ≤ n ∧ n ≤ 12 ∧ q < n) := Lib.hid ⟨by omega, by omega, hqlt⟩
  have hnI : (n : Int) ≤ 12 := by omega
  clear hn1 hn2 ht hqlt
  go_enter Try.func7, Try.ntmps7
  go_wp2_with fail
  refine (awake13_any w).mono ?_
  rintro e w1 ⟨rfl, hb1⟩
  have Hb1 := Lib.hid hb1
  clear hb1
  go_wp2_with fail
  go_loopw [5, 6] (fun mv i wr => ∃ (j : Nat) (acc : List (Vl × List Value)), i = .int .i64 j ∧ j ≤ n ∧ Hid (acc.map (·.1) = turnL L q j) ∧ Hid (∀ p ∈ acc, Vl.at w p.1 p.2) ∧ Hid (wr.ownsRow w1.heap.size 25 3 mv j (acc.flatMap (·.2))) ∧ Hid (Below w1.heap.size w1 wr)) (fun _ i _ => n - (intOf i).toNat)
  case atStart => exact ⟨0, [], rfl, Nat.zero_le _, Lib.hid rfl, Lib.hid (fun p hp => by cases hp), Lib.hid (World.ownsRow_nil _ _ _ _), Lib.hid (Below.refl _ _)⟩
  case round =>
    obtain ⟨j, acc, rfl, hj, hacc, hat, hown, hB⟩ := hrel
    by_cases hjl : j < n
    · have hdj : decide ((j : Int) < n) = true := by simp; omega
      have hjL : j < L.length := by have := HN.out; omega
      obtain ⟨r, hr⟩ : ∃ r, r = (j + q) % n := ⟨_, rfl⟩
      have hrn : r < n := by rw [hr]; exact Nat.mod_lt _ (by omega)
      have hrL : r < L.length := by have := HN.out; omega
      obtain ⟨b0, off0, rfl, hcap0, hbw0, hv0⟩ := Hl.out.resolve_left (by omega)
      have hcapI : (n : Int) ≤ cap0 := by omega
      obtain ⟨ds1, hc1, hat1⟩ := vals_get _ b0 L off0 hv0 j hjL
      obtain ⟨ds2, hc2, hat2⟩ := vals_get _ b0 L off0 hv0 r hrL
      have hbr : Below w.heap.size w wr := bt2 Hb1.out hB.out
      have h9 : Val3 wr b0 (off0 + j * 3) ds1 := hc1.below hbw0 hbr
      have hcw := wide_any 20 L[j] ds1 wr (by decide) (at_later2 hat1 hbr)
      have Hbr := Lib.hid hbr
      generalize wideN 20 L[j] = bw at hcw
      have hdr : decide ((r : Int) < n) = true := by simp; omega
      have hs2 : ((j : Int) + (q : Int)) % (n : Int) = (r : Int) := by rw [hr]; simp
      have hs3 : Int.tmod ((j : Int) + (q : Int)) (n : Int) = (r : Int) := by rw [Int.tmod_eq_emod_of_nonneg (Int.add_nonneg (Int.natCast_nonneg j) (Int.natCast_nonneg q)), hs2]
      have hs4 : Int.tmod ((j + q : Nat) : Int) (n : Int) = (r : Int) := by rw [Int.natCast_add, hs3]
      have hs1 : wrap64 ((j : Int) + (q : Int)) = ((j + q : Nat) : Int) := wrap_small HB.out hj
      have hs5 : wrap64 ((j : Int) + (q : Int)) % (n : Int) = (r : Int) := by rw [hs1, Int.natCast_add, hs2]
      have hs6 : Int.tmod (wrap64 ((j : Int) + (q : Int))) (n : Int) = (r : Int) := by rw [hs1, hs4]
      have hnew := turnL_succ L q j
      rw [← HN.out, ← hr] at hnew
      have hget : L.getD r (.mk 0 0 []) = L[r] := by rw [List.getD_eq_getElem?_getD, List.getElem?_eq_getElem hrL]; rfl
      rw [hget] at hnew
      have Hnew := Lib.hid hnew
      have Hc2 := Lib.hid hc2
      have Hat2 := Lib.hid hat2
      have Hbw0 := Lib.hid hbw0
      generalize L[r] = y at Hat2 Hnew
      clear hc1 hc2 hat1 hat2 hv0 hbw0 hcap0 hbr hnew hget hjL hrL hr
      cases bw with
      | true =>
        clear hs1 hs2 hs3 hs4 hs5 hs6
        go_wp2_with (first
          | (refine wpList_load_val rfl _ rfl b0 (off0 + j * 3) _ rfl h9 ?_)
          | fail)
        refine hcw.mono ?_
        rintro e w3 ⟨rfl, hb3⟩
        have Hb3 := Lib.hid (bt2 Hbr.out hb3)
        clear hb3 hcw
        go_wp2_with fail
        go_ret
        exact ⟨rfl, Hb3.out⟩
      | false =>
        go_wp2_with (first
          | (refine wpList_load_val rfl _ rfl b0 (off0 + j * 3) _ rfl h9 ?_)
          | fail)
        refine hcw.mono ?_
        rintro e w3 ⟨rfl, hb3⟩
        have h10 : Val3 w3 b0 (off0 + r * 3) ds2 := Hc2.out.below Hbw0.out (bt2 Hbr.out hb3)
        have hone := at_cell_one Hat2.out
        obtain ⟨k2, z2, a2, len2, cap2, rfl⟩ := at_lit Hat2.out
        have hown3 : w3.ownsRow w1.heap.size 25 3 u5 j (acc.flatMap (·.2)) := own_below hown.out hb3
        have hin : ∀ p ∈ acc, Vl.at w p.1 p.2 := hat.out
        have Hs3 := Lib.hid (bt2 (Hb1.out.trans (hB.out.mono Hb1.out.size)) (Below.refl _ _))
        have Hb3 := Lib.hid (hB.out.trans (hb3.mono hB.out.size))
        obtain ⟨w4, hw4⟩ : ∃ w4, w4 = w3.alloc (.cells #[.int .i64 k2, .int .u8 z2, .slice a2 len2 cap2] 25) := ⟨_, rfl⟩
        have hb4 : Below w3.heap.size w3 w4 := by rw [hw4]; exact (Below.refl _ _).alloc (Nat.le_refl _) _
        have hown4 := own_below hown3 hb4
        have h11 : Val3 w4 w3.heap.size 0 [.int .i64 k2, .int .u8 z2, .slice a2 len2 cap2] := by rw [hw4]; exact val3_in (World.alloc_heap_new w3 _) rfl
        have hwz : w1.heap.size ≤ w4.heap.size := by have h1 := Hb3.out.size; have h2 := hb4.size; omega
        have hn4 : j < 400000000000 := by have := HB.out; omega
        clear hb3 hcw h9 hown3
        go_wp2_with (first
          | (refine wpList_load_val rfl _ rfl b0 (off0 + r * 3) _ rfl h10 ?_)
          | (rw [← hw4]; refine wpList_append_v rfl _ _ rfl w1.heap.size _ j _ rfl hown4 w3.heap.size _ rfl h11 hone hn4 hwz ?_; intro v5 w5 ho5 hg5 _; have Ho5 := Lib.hid ho5; have Hg5 := Lib.hid hg5; clear ho5 hg5)
          | fail)
        go_roundw
        case rel =>
          refine ⟨j + 1, acc ++ [(y, [.int .i64 k2, .int .u8 z2, .slice a2 len2 cap2])], by go_num, by omega, Lib.hid ?_, Lib.hid ?_, Lib.hid ?_, Lib.hid ?_⟩
          · rw [List.map_append, hacc.out, Hnew.out]; rfl
          · intro p hp
            rcases List.mem_append.1 hp with hp | hp
            · exact hin p hp
            · rw [List.mem_singleton] at hp
              subst hp
              exact Hat2.out
          · rw [List.flatMap_append]
            have h := Ho5.out
            simpa using h
          · exact (Hb3.out.trans (hb4.mono Hb3.out.size)).grown Hg5.out hwz (fun k hk => (hown4.lt k hk).1)
        case measure => simp [intOf]; omega
    · obtain ⟨wo, rfl⟩ : ∃ wo : World, wo = wr := ⟨_, rfl⟩
      have ejn : j = n := by omega
      rw [ejn] at hacc hown
      have hdj : decide ((j : Int) < n) = false := by rw [ejn]; simp
      have hlenA : acc.length = n := by
        have h := congrArg List.length hacc.out
        rw [List.length_map, turnL_len] at h
        exact h
      have hn12 : n ≤ maxLen := by have := HB.out; unfold maxLen; omega
      have hown' := hown.out
      rw [← hlenA] at hown'
      have hM := owned_list hown' (fun p hp => at_later2 (hat.out p hp) (bt2 Hb1.out hB.out)) (by rw [hlenA]; exact hn12)
      rw [hacc.out] at hM
      have hLpos : 0 < L.length := by have h1 := HB.out; have h2 := HN.out; omega
      have hMl : (turnL L q n).length = n := turnL_len _ _ _
      have hML : ∀ x ∈ turnL L q n, x ∈ L := fun x hx => turnL_mem hLpos hx
      have hLM : ∀ x ∈ L, x ∈ turnL L q n := fun x hx => by rw [HN.out]; exact mem_turnL (by have h1 := HB.out; have h2 := HN.out; omega) hx
      generalize turnL L q n = M at hM hMl hML hLM
      have hM0 := hM
      obtain ⟨a5, c5, e5, _, hl5⟩ := hM
      rw [hMl] at e5 hl5
      subst e5
      have hcall1 := best_some hLpos Hs.out (HL.out.below (bt2 Hb1.out hB.out))
      have HM0 := Lib.hid hM0
      have Hl5 := Lib.hid hl5
      have HML := Lib.hid (And.intro hML hLM)
      have HMl := Lib.hid hMl
      have Hbr := Lib.hid (bt2 Hb1.out hB.out)
      clear hM0 hl5 hML hLM hMl hown' hown hacc hat hlenA hB hn12 hLpos hjl
      go_wp2_with fail
      refine hcall1.mono ?_
      rintro e w7 ⟨i, rfl, hBi, hb7⟩
      have hcall2 := best_some (by have h1 := HB.out; have h2 := HMl.out; omega) (fun x hx => Hs.out x (HML.out.1 x hx)) (HM0.out.below hb7)
      have HBi := Lib.hid hBi
      have Hb7 := Lib.hid (bt2 Hbr.out hb7)
      have H7 := Lib.hid hb7
      clear hBi hb7 hcall1
      go_wp2_with fail
      refine hcall2.mono ?_
      rintro e w8 ⟨k, rfl, hBk, hb8⟩
      have HBk := Lib.hid hBk
      have Hb8 := Lib.hid (bt2 Hb7.out hb8)
      have H8 := Lib.hid (bt2 H7.out hb8)
      have hin : i < n := by have h1 := best_lt HBi.out; have h2 := HN.out; omega
      have hkn : k < n := by have h1 := best_lt HBk.out; have h2 := HMl.out; omega
      have g1 : decide ((i : Int) < 0) = false := by simp
      have g2 : decide ((k : Int) < 0) = false := by simp
      have g3 : decide ((n : Int) ≤ i) = false := by simp; omega
      have g4 : decide ((n : Int) ≤ k) = false := by simp; omega
      have g5 : decide ((i : Int) ≥ n) = false := g3
      have g6 : decide ((k : Int) ≥ n) = false := g4
      have g7 : ¬ n ≤ i := by omega
      have g8 : ¬ n ≤ k := by omega
      have Hin := Lib.hid (And.intro hin hkn)
      clear hBk hb8 hcall2
      go_wp2_with fail
      clear g1 g2 g3 g4 g5 g6 g7 g8 hin hkn
      go_loopw [11] (fun xi wr => ∃ x : Nat, xi = .int .i64 x ∧ x ≤ n ∧ Hid (Below w8.heap.size w8 wr)) (fun xi _ => n - (intOf xi).toNat)
      case atStart => exact ⟨0, rfl, Nat.zero_le _, Lib.hid (Below.refl _ _)⟩
      case round =>
        obtain ⟨x, rfl, hx, hBq⟩ := hrel
        by_cases hxn : x < n
        · have hdx : decide ((x : Int) < n) = true := by simp; omega
          have hxL : x < L.length := by have := HN.out; omega
          have hiL : i < L.length := best_lt HBi.out
          have hin : i < n := Hin.out.1
          obtain ⟨b0, off0, rfl, hcap0, hbw0, hv0⟩ := Hl.out.resolve_left (by omega)
          have hcapI : (n : Int) ≤ cap0 := by omega
          have hdi : decide ((i : Int) < n) = true := by simp; omega
          obtain ⟨ds1, hc1, hat1⟩ := vals_get _ b0 L off0 hv0 x hxL
          obtain ⟨ds2, hc2, hat2⟩ := vals_get _ b0 L off0 hv0 i hiL
          have HBQ := Lib.hid (bt2 Hb8.out hBq.out)
          have HV1 := Lib.hid (fun (w' : World) (h : Below wr.heap.size wr w') => Val3.below hc1 hbw0 (bt2 HBQ.out h))
          have HV2 := Lib.hid (fun (w' : World) (h : Below wr.heap.size wr w') => Val3.below hc2 hbw0 (bt2 HBQ.out h))
          have HC := Lib.hid (fun (w' : World) (h : Below wr.heap.size wr w') => rank_cmp L[x] L[i] ds1 ds2 w' (at_later2 hat1 (bt2 HBQ.out h)) (at_later2 hat2 (bt2 HBQ.out h)))
          have hge : 0 ≤ ord L[x] L[i] ∧ (x < i → 0 < ord L[x] L[i]) := by
            obtain ⟨z, e1, g1, g2⟩ := HBi.out
            rw [List.getElem?_eq_getElem hiL] at e1
            cases e1
            exact ⟨g1 x _ (List.getElem?_eq_getElem hxL), fun h => g2 x _ h (List.getElem?_eq_getElem hxL)⟩
          generalize ord L[x] L[i] = o2 at HC hge
          have o1 : decide (o2 < 0) = false := by simp; omega
          clear hc1 hc2 hat1 hat2 hv0 hbw0 hcap0 hxL hiL
          by_cases hxi : x < i
          · have hdxi : decide ((x : Int) < i) = true := by simp; omega
            have o3 : (o2 == 0) = false := by have := hge.2 hxi; simp; omega
            clear hge
            go_upto_region 19 with fail
            refine wp_region_later (W0 := wr) (Below.refl _ _) (by kernel_rfl) (by as_aux_lemma => kernel_rfl) ?_
            go_big_quiet_step (exact rfl)
            go_big_quiet_step (exact rfl)
            go_big_quiet_step (exact rfl)
            (go_big_quiet_want; refine quiet_load_val _ rfl b0 (off0 + x * 3) ds1 rfl (fun w' hw' => by obtain ⟨L1, rfl⟩ := hw'; exact HV1.out _ L1.ok) ?_; go_big_quiet_on; try simp only [Act.put, List.setIfInBounds_toArray, List.set_cons_zero, List.set_cons_succ])
            go_big_quiet_step (exact rfl)
            go_big_quiet_step (exact rfl)
            go_big_quiet_step (exact rfl)
            (go_big_quiet_want; refine quiet_load_val _ rfl b0 (off0 + i * 3) ds2 rfl (fun w' hw' => by obtain ⟨L1, rfl⟩ := hw'; exact HV2.out _ L1.ok) ?_; go_big_quiet_on; try simp only [Act.put, List.setIfInBounds_toArray, List.set_cons_zero, List.set_cons_succ])
            go_big_quiet_step (exact Later.calls (HC.out _ (Later.ok _)))
            go_big_quiet_step (exact rfl)
            go_big_quiet_step (exact rfl)
            go_big_quiet_step (exact rfl)
            go_big_quiet_step (exact rfl)
            go_big_quiet_step (exact rfl)
            go_big_quiet_step (exact rfl)
            go_big_quiet_step (exact rfl)
            go_big_quiet_step (exact rfl)
            go_big_quiet_step (exact rfl)
            (go_big_quiet_want; refine quiet_load_val _ rfl b0 (off0 + x * 3) ds1 rfl (fun w' hw' => by obtain ⟨L1, rfl⟩ := hw'; exact HV1.out _ L1.ok) ?_; go_big_quiet_on; try simp only [Act.put, List.setIfInBounds_toArray, List.set_cons_zero, List.set_cons_succ])
            go_big_quiet_step (exact rfl)
            go_big_quiet_step (exact rfl)
            go_big_quiet_step (exact rfl)
            (go_big_quiet_want; refine quiet_load_val _ rfl b0 (off0 + i * 3) ds2 rfl (fun w' hw' => by obtain ⟨L1, rfl⟩ := hw'; exact HV2.out _ L1.ok) ?_; go_big_quiet_on; try simp only [Act.put, List.setIfInBounds_toArray, List.set_cons_zero, List.set_cons_succ])
            go_big_quiet_step (exact Later.calls (HC.out _ (Later.ok _)))
            go_big_quiet_step (exact rfl)
            go_big_quiet_step (exact rfl)
            go_big_quiet_step (exact rfl)
            refine wpQuiet_nil ?_
            intro w' hw'
            obtain ⟨L', rfl⟩ := hw'
            go_step
            go_step
            go_wp2_with fail
            go_roundw
            case rel => exact ⟨x + 1, by go_num, by omega, Lib.hid (hBq.out.trans (L'.ok.mono hBq.out.size))⟩
            case measure => simp [intOf]; omega
          · have hdxi : decide ((x : Int) < i) = false := by simp; omega
            clear hge
            go_upto_region 19 with fail
            refine wp_region_later (W0 := wr) (Below.refl _ _) (by kernel_rfl) (by as_aux_lemma => kernel_rfl) ?_
            go_big_quiet_step (exact rfl)
            go_big_quiet_step (exact rfl)
            go_big_quiet_step (exact rfl)
            (go_big_quiet_want; refine quiet_load_val _ rfl b0 (off0 + x * 3) ds1 rfl (fun w' hw' => by obtain ⟨L1, rfl⟩ := hw'; exact HV1.out _ L1.ok) ?_; go_big_quiet_on; try simp only [Act.put, List.setIfInBounds_toArray, List.set_cons_zero, List.set_cons_succ])
            go_big_quiet_step (exact rfl)
            go_big_quiet_step (exact rfl)
            go_big_quiet_step (exact rfl)
            (go_big_quiet_want; refine quiet_load_val _ rfl b0 (off0 + i * 3) ds2 rfl (fun w' hw' => by obtain ⟨L1, rfl⟩ := hw'; exact HV2.out _ L1.ok) ?_; go_big_quiet_on; try simp only [Act.put, List.setIfInBounds_toArray, List.set_cons_zero, List.set_cons_succ])
            go_big_quiet_step (exact Later.calls (HC.out _ (Later.ok _)))
            go_big_quiet_step (exact rfl)
            go_big_quiet_step (exact rfl)
            go_big_quiet_step (exact rfl)
            go_big_quiet_step (exact rfl)
            go_big_quiet_step (exact rfl)
            go_big_quiet_step (exact rfl)
            go_big_quiet_skip
            go_big_quiet_skip
            go_big_quiet_skip
            go_big_quiet_skip
            go_big_quiet_skip
            go_big_quiet_skip
            go_big_quiet_skip
            go_big_quiet_skip
            go_big_quiet_skip
            go_big_quiet_skip
            go_big_quiet_step (exact rfl)
            go_big_quiet_step (exact rfl)
            refine wpQuiet_nil ?_
            intro w' hw'
            obtain ⟨L', rfl⟩ := hw'
            go_step
            go_step
            go_wp2_with fail
            go_roundw
            case rel => exact ⟨x + 1, by go_num, by omega, Lib.hid (hBq.out.trans (L'.ok.mono hBq.out.size))⟩
            case measure => simp [intOf]; omega
        · have exn : x = n := by omega
          have hdx : decide ((x : Int) < n) = false := by rw [exn]; simp
          have hiL : i < L.length := best_lt HBi.out
          have hkM : k < M.length := best_lt HBk.out
          have hin : i < n := Hin.out.1
          have hkn : k < n := Hin.out.2
          obtain ⟨b0, off0, rfl, hcap0, hbw0, hv0⟩ := Hl.out.resolve_left (by omega)
          obtain ⟨b5, off5, rfl, hcap5, hbw5, hv5⟩ := Hl5.out.resolve_left (by omega)
          have hcapI : (n : Int) ≤ cap0 := by omega
          have hcapI5 : (n : Int) ≤ c5 := by omega
          have hdi : decide ((i : Int) < n) = true := by simp; omega
          have hdk : decide ((k : Int) < n) = true := by simp; omega
          obtain ⟨ds1, hc1, hat1⟩ := vals_get _ b0 L off0 hv0 i hiL
          obtain ⟨ds2, hc2, hat2⟩ := vals_get _ b5 M off5 hv5 k hkM
          have HBQ := Lib.hid (bt2 Hb8.out hBq.out)
          have HBO := Lib.hid (bt2 H8.out hBq.out)
          have HV1 := Lib.hid (fun (w' : World) (h : Below wr.heap.size wr w') => Val3.below hc1 hbw0 (bt2 HBQ.out h))
          have HV2 := Lib.hid (fun (w' : World) (h : Below wr.heap.size wr w') => Val3.below hc2 hbw5 (bt2 HBO.out h))
          have hz := best_alike Hs.out HML.out.1 HML.out.2 HBi.out HBk.out (List.getElem?_eq_getElem hiL) (List.getElem?_eq_getElem hkM)
          have HC := Lib.hid (fun (w' : World) (h : Below wr.heap.size wr w') => cmp_eq (n := 0) (at_later2 hat1 (bt2 HBQ.out h)) (at_later2 hat2 (bt2 HBO.out h)) hz)
          clear hc1 hc2 hat1 hat2 hv0 hv5 hbw0 hbw5 hcap0 hcap5 hiL hkM hz exn ejn
          go_upto_region 21 with fail
          refine wp_region_later (W0 := wr) (Below.refl _ _) (by kernel_rfl) (by as_aux_lemma => kernel_rfl) ?_
          go_big_quiet_step (exact rfl)
          go_big_quiet_step (exact rfl)
          go_big_quiet_step (exact rfl)
          (go_big_quiet_want; refine quiet_load_val _ rfl b0 (off0 + i * 3) ds1 rfl (fun w' hw' => by obtain ⟨L1, rfl⟩ := hw'; exact HV1.out _ L1.ok) ?_; go_big_quiet_on; try simp only [Act.put, List.setIfInBounds_toArray, List.set_cons_zero, List.set_cons_succ])
          go_big_quiet_step (exact rfl)
          go_big_quiet_step (exact rfl)
          go_big_quiet_step (exact rfl)
          (go_big_quiet_want; refine quiet_load_val _ rfl b5 (off5 + k * 3) ds2 rfl (fun w' hw' => by obtain ⟨L1, rfl⟩ := hw'; exact HV2.out _ L1.ok) ?_; go_big_quiet_on; try simp only [Act.put, List.setIfInBounds_toArray, List.set_cons_zero, List.set_cons_succ])
          go_big_quiet_step (exact Later.calls (HC.out _ (Later.ok _)))
          go_big_quiet_step (exact rfl)
          go_big_quiet_step (exact rfl)
          refine wpQuiet_nil ?_
          intro w' hw'
          obtain ⟨L', rfl⟩ := hw'
          go_step
          go_step
          go_wp2_with fail
          go_ret
          exact ⟨rfl, HBQ.out.trans (L'.ok.mono HBQ.out.size)⟩
end V
end Go.Proofs.Ytkekdfelcfoilaa
