/- core.visit: the nodes of a node, in the order in which they begin, as many as may be: what it does, of whatever rounds. -/
import Derived.Test.YtonhmjfopidacaaDoorTreeOps
import Derived.Test.YtonhmjfopidacaaDoorCoreBig
namespace Go.Proofs.YtonhmjfopidacaaDoor
namespace K
set_option maxRecDepth 100000
open Go.RowKit Go.Shelf

attribute [local go_sem] Oper.semAt_some

/-! the nodes in the order in which they begin -/
mutual
def Cr.pre : Cr → List Cr
  | .mk k s n l => .mk k s n l :: pres l
def pres : List Cr → List Cr
  | [] => []
  | x :: l => x.pre ++ pres l
end
theorem pre_mk (k : Int) (s : BitVec 256) (n : Int) (l : List Cr) : (Cr.mk k s n l).pre = .mk k s n l :: pres l := by rw [Cr.pre]
theorem pres_cons (x : Cr) (l : List Cr) : pres (x :: l) = x.pre ++ pres l := by rw [pres]
theorem pres_nil : pres [] = [] := by rw [pres]
mutual
theorem Cr.pre_length : ∀ x : Cr, x.pre.length = x.count
  | .mk k s n l => by rw [pre_mk, count_mk, List.length_cons, pres_length l]; omega
theorem pres_length : ∀ l : List Cr, (pres l).length = counts l
  | [] => by rw [pres_nil, counts_nil]; rfl
  | x :: l => by rw [pres_cons, counts_cons, List.length_append, Cr.pre_length x, pres_length l]
end
theorem pres_append (l m : List Cr) : pres (l ++ m) = pres l ++ pres m := by
  induction l with
  | nil => rw [pres_nil]; rfl
  | cons x l ih => rw [List.cons_append, pres_cons, pres_cons, ih, List.append_assoc]
theorem counts_append (l m : List Cr) : counts (l ++ m) = counts l + counts m := by
  rw [← pres_length, ← pres_length, ← pres_length, pres_append, List.length_append]
/-- a node with its cells, in a world -/
abbrev NV (W0 : World) := { p : Cr × List Value // Cr.at W0 p.1 p.2 }
/-- the nodes that have come -/
def nds {W0 : World} (q : List (NV W0)) : List Cr := q.map (·.1.1)
theorem nds_append {W0 : World} (q r : List (NV W0)) : nds (q ++ r) = nds q ++ nds r := List.map_append
/-- as far as the first j nodes in a node reach -/
def fore (x : Cr) (j left : Nat) : List Cr := (x :: pres (x.nodes.take j)).take left
theorem fore_zero (x : Cr) {left : Nat} (h : 1 ≤ left) : fore x 0 left = [x] := by
  unfold fore
  rw [List.take_zero, pres_nil, List.take_of_length_le (by simpa using h)]
theorem fore_all (x : Cr) (left : Nat) : fore x x.nodes.length left = x.pre.take left := by
  unfold fore
  rw [List.take_length]
  cases x with
  | mk k s n l => rw [pre_mk]; rfl
theorem counts_take_le (l : List Cr) (j : Nat) : counts (l.take j) ≤ counts l := by
  have h := counts_append (l.take j) (l.drop j)
  rw [List.take_append_drop] at h
  omega
theorem fore_full (x : Cr) (j left : Nat) (h : left ≤ 1 + counts (x.nodes.take j)) : fore x j left = x.pre.take left := by
  unfold fore
  have hp : x.pre = (x :: pres (x.nodes.take j)) ++ pres (x.nodes.drop j) := by
    rw [List.cons_append, ← pres_append, List.take_append_drop]
    cases x with
    | mk k s n l => rw [pre_mk]; rfl
  rw [hp, List.take_append_of_le_length (by rw [List.length_cons, pres_length]; omega)]
theorem take_succ_counts (l : List Cr) (j : Nat) (hj : j < l.length) : counts (l.take (j + 1)) = counts (l.take j) + l[j].count := by
  rw [List.take_succ_eq_append_getElem hj, counts_append, counts_cons, counts_nil]; rfl
theorem fore_succ (x : Cr) (j left : Nat) (hj : j < x.nodes.length) :
    fore x (j + 1) left = fore x j left ++ (x.nodes[j].pre).take (left - (1 + counts (x.nodes.take j))) := by
  unfold fore
  rw [List.take_succ_eq_append_getElem hj, pres_append, pres_cons, pres_nil, List.append_nil, ← List.cons_append, List.take_append]
  rw [List.length_cons, pres_length, Nat.add_comm (counts _) 1]
theorem fore_prefix (x : Cr) (j left : Nat) : fore x j left <+: x.pre.take left := by
  unfold fore
  have hp : x.pre = (x :: pres (x.nodes.take j)) ++ pres (x.nodes.drop j) := by
    rw [List.cons_append, ← pres_append, List.take_append_drop]
    cases x with
    | mk k s n l => rw [pre_mk]; rfl
  rw [hp, List.take_append]
  exact List.prefix_append _ _
theorem fore_length (x : Cr) (j left : Nat) : (fore x j left).length = min left (1 + counts (x.nodes.take j)) := by
  unfold fore
  rw [List.length_take, List.length_cons, pres_length]; omega
theorem nums_len {left c p qn : Nat} (hp : ¬ p = 0) (hp' : p = left - (1 + c)) (h : qn = min left (1 + c)) : qn = 1 + c := by omega
theorem nums_fit {left c p N a : Nat} (hp : ¬ p = 0) (hp' : p = left - (1 + c)) (h : a + left ≤ N) : a + (1 + c) + p ≤ N := by omega
theorem nums_le {left c p : Nat} (hp' : p = left - (1 + c)) (h : left ≤ 100000) : p ≤ 100000 := by omega
theorem nums_next {left c p d e : Nat} (h1 : e = c + d) (h2 : p = left - (1 + c)) : p - d = left - (1 + e) := by omega
/-- what a call of visit ends in -/
def VisitPost {W0 : World} (J Jx : List (NV W0) → World → Prop) (x : Cr) (pre : List (NV W0)) (left : Nat) (e : Ending) (W' : World) : Prop :=
  (∃ q : List (NV W0), nds q = x.pre.take left ∧ e = .returned (.int .i64 ((left - x.count : Nat) : Int)) ∧ J (pre ++ q) W') ∨
  (e = .returned (.int .i64 0) ∧ ∃ q : List (NV W0), nds q <+: x.pre.take left ∧ Jx (pre ++ q) W')
set_option maxRecDepth 100000 in
set_option maxHeartbeats 2000000 in
theorem visit_in (l : Nat) (W0 : World) (N B : Nat) (J Jx : List (NV W0) → World → Prop) (hJ : AbidesFrom B J) (hJx : AbidesFrom B Jx)
    (hJb : ∀ pre W', J pre W' → Below W0.heap.size W0 W') (hJxb : ∀ pre W', Jx pre W' → Below W0.heap.size W0 W')
    (hY : ∀ m pre (x : NV W0) W1 o, J pre W1 → o.isCells = true → pre.length < N → YieldAt Fence.wide m Tryd.prog l #[.agg x.1.2.toArray] (W1.alloc o) fun e W' =>
      ((e = .returned (.bool true) ∧ J (pre ++ [x]) W') ∨ (e = .returned (.bool false) ∧ Jx (pre ++ [x]) W')) ∧ W'.heap[W1.heap.size]? = some o) :
    ∀ (m : Nat) (x : Cr), x.count ≤ m → ∀ (n : Nat) (cs : List Value) (pre : List (NV W0)) (W : World) (left : Nat), Cr.at W0 x cs → J pre W → 1 ≤ left → left ≤ 100000 → pre.length + left ≤ N →
      CallsIn Fence.wide n Tryd.prog 69 #[.agg cs.toArray, .int .i64 left, .func (.yield l) #[] #[]] W (VisitPost J Jx x pre left)
  | 0, x, hm => by have := Cr.count_pos x; omega
  | m + 1, .mk k s nn ls, hm => by
    intro n cs pre W left hat hj h1 hle hN
    have ih := visit_in l W0 N B J Jx hJ hJx hJb hJxb hY m
    have hat' := hat
    rw [at_mk] at hat
    obtain ⟨_, _, a, cap, hcs, hmax, hl⟩ := hat
    have hy := hY (n - 1) pre ⟨(.mk k s nn ls, cs), hat'⟩ W (.cells cs.toArray 28) hj rfl (by omega)
    subst hcs
    obtain ⟨fn, tmps, assign, body, hyr, hR⟩ := hy
    have hR' := hR.mono (R' := fun e W' => (e = .returned (.bool true) ∧ J (pre ++ [⟨(.mk k s nn ls, _), hat'⟩]) W' ∧ W'.cell? ⟨W.heap.size, 6, none⟩ = some (.slice a ls.length cap)) ∨ (e = .returned (.bool false) ∧ Jx (pre ++ [⟨(.mk k s nn ls, _), hat'⟩]) W'))
      (fun e W' h => h.1.elim (fun h1 => .inl ⟨h1.1, h1.2, by simp [World.cell?, h.2]⟩) .inr)
    clear hR
    have hmore : decide ((1 : Int) = ((left : Nat) : Int)) = decide (left = 1) := by
      by_cases h : left = 1
      · subst h; rfl
      · rw [decide_eq_false h, decide_eq_false (by omega)]
    have hmx : ls.length ≤ 9223372036854775807 := Nat.le_trans hmax (by decide)
    have hdd : ∀ k : Nat, (Fence.wide.depth.isSome = true → 1 ≤ k) := fun k h => by cases h
    have hx0 : nds (W0 := W0) [⟨(.mk k s nn ls, _), hat'⟩] = fore (.mk k s nn ls) 0 left := by rw [fore_zero _ h1]; rfl
    generalize (⟨(.mk k s nn ls, _), hat'⟩ : NV W0) = x0 at hR' hx0
    dsimp only at hyr
    obtain ⟨X, hX⟩ : ∃ X : Cr, X = .mk k s nn ls := ⟨_, rfl⟩
    have hXn : X.nodes = ls := by rw [hX]; rfl
    have hXc : X.count = 1 + counts ls := by rw [hX, count_mk]
    rw [← hX] at hx0 hm ⊢
    have HX := Lib.hid hX
    have HXn := Lib.hid hXn
    have HXc := Lib.hid hXc
    have Hx0 := Lib.hid hx0
    clear hX hXn hXc hx0 hat'
    refine callsIn_of_wp Tryd.func69 rfl trivial ?_ rfl
    simp only [Tryd.ntmps69, List.size_toArray, List.length_cons, List.length_nil, Nat.reduceAdd, Nat.reduceSub, Array.replicate_succ, Array.replicate_zero, List.push_toArray, List.append_toArray, List.nil_append, List.cons_append]
    gi_wp2_with ((try refine ⟨hdd _, ?_⟩); refine hR'.mono ?_; clear hR'; rintro e W2 (⟨rfl, hJ2, c8⟩ | ⟨rfl, hx2⟩))
    · clear c8 hyr
      refine wpIn_wide.2 ?_
      go_loopw [1, 18] (fun v i wr => ∃ (j p : Nat), v = .int .i64 p ∧ i = .int .i64 j ∧ j ≤ ls.length ∧ ((∃ q, nds q = fore X j left ∧ p = left - (1 + counts (ls.take j)) ∧ J (pre ++ q) wr) ∨ (p = 0 ∧ ∃ q, nds q <+: X.pre.take left ∧ Jx (pre ++ q) wr))) (fun _ i _ => ls.length - (intOf i).toNat)
      case atStart =>
        refine ⟨0, left - 1, congrArg (Value.int .i64) (by omega), rfl, Nat.zero_le _, .inl ⟨[x0], Hx0.out, ?_, hJ2⟩⟩
        rw [List.take_zero, counts_nil]
      case round =>
        obtain ⟨j, p, rfl, rfl, hjl, hrel⟩ := hrel
        by_cases hjn : j < ls.length
        · have hdj : decide ((j : Int) < ls.length) = true := by simp; omega
          rcases hl with hl | ⟨b, off, rfl, hcap, hbw, hnodes⟩
          · omega
          obtain ⟨cs, hcs, hcell, hchild⟩ := nodes_get W0 b ls off hnodes j hjn
          have hbel : Below W0.heap.size W0 wr := hrel.elim (fun ⟨_, _, _, h⟩ => hJb _ _ h) (fun ⟨_, _, _, h⟩ => hJxb _ _ h)
          have h9 : Core7 wr b (off + j * 7) cs := ⟨hcs, fun q hq => by rw [hbel.cell (p := ⟨b, off + j * 7 + q, none⟩) hbw]; exact hcell q hq⟩
          have hcount : ls[j].count ≤ m := by
            have h1 := HXc.out
            have h2 := counts_mem (List.getElem_mem hjn)
            omega
          have hstep : fore X (j + 1) left = fore X j left ++ (ls[j].pre).take (left - (1 + counts (ls.take j))) := by
            have e := HX.out
            subst e
            exact fore_succ (.mk k s nn ls) j left hjn
          have hcnt := take_succ_counts ls j hjn
          have hful : left ≤ 1 + counts (ls.take j) → fore X j left = X.pre.take left := fun h => by
            have e := HX.out
            subst e
            exact fore_full (.mk k s nn ls) j left h
          have hful2 : 1 + counts (ls.take j) ≤ X.count := by
            rw [HXc.out]; have := counts_take_le ls j; omega
          have hlen : (fore X j left).length = min left (1 + counts (ls.take j)) := by
            have e := HX.out
            subst e
            exact fore_length _ _ _
          have hpre : ∀ t : List Cr, t <+: fore X (j + 1) left → t <+: X.pre.take left := fun t h => h.trans (fore_prefix _ _ _)
          generalize hch : ls[j] = ch at hchild hcount hstep hcnt
          have hchild' := hchild
          cases ch with
          | mk k' s' nn' ls' =>
            rw [at_mk] at hchild
            obtain ⟨_, _, a', cap', hcs', _, _⟩ := hchild
            subst hcs'
            generalize hX' : Cr.mk k' s' nn' ls' = ch at hchild' hcount hstep hcnt
            clear hcell hnodes hX' hch
            by_cases hp : p = 0
            · have hdp : ((p : Int) == 0) = true := by simp [hp]
              have Hrel := Lib.hid hrel
              have Hp := Lib.hid hp
              have Hful := Lib.hid hful
              have Hful2 := Lib.hid hful2
              clear hrel hp hstep hcnt hful hful2 hlen hpre hbel ih
              go_wp2_with (first | (refine wpList_load_core rfl _ rfl b (off + j * 7) _ rfl h9 ?_) | fail)
              gi_wp2
              go_ret
              rcases Hrel.out with ⟨q, hq, hp', hjq⟩ | ⟨_, q, hq, hjq⟩
              · have hle1 : left ≤ 1 + counts (ls.take j) := by have := Hp.out; omega
                refine .inl ⟨q, by rw [hq, Hful.out hle1], ?_, abides_still hJ hjq ((Below.refl _ _).alloc (Nat.le_refl _) _)⟩
                rw [Hp.out, show left - X.count = 0 from by have := Hful2.out; omega]; rfl
              · exact .inr ⟨by rw [Hp.out]; rfl, q, hq, abides_still hJx hjq ((Below.refl _ _).alloc (Nat.le_refl _) _)⟩
            · have hdp : ((p : Int) == 0) = false := by simp; omega
              rcases hrel with ⟨q, hq, hp', hjq⟩ | ⟨h0, _⟩
              rotate_left 1
              · exact absurd h0 hp
              have hql : q.length = 1 + counts (ls.take j) := by
                have h := congrArg List.length hq
                rw [hlen] at h
                simp only [nds, List.length_map] at h
                exact nums_len hp hp' h
              have hp1 : 1 ≤ p := Nat.pos_of_ne_zero hp
              have hp2 : p ≤ 100000 := nums_le hp' hle
              have hp3 : (pre ++ q).length + p ≤ N := by rw [List.length_append, hql]; exact nums_fit hp hp' hN
              have hcall := fun o : Obj => callsIn_wide.1 (ih ch hcount 1 _ (pre ++ q) (wr.alloc o) p hchild' (abides_still hJ hjq ((Below.refl _ _).alloc (Nat.le_refl _) _)) hp1 hp2 hp3)
              have Hq := Lib.hid hq
              have Hp := Lib.hid hp'
              have Hstep := Lib.hid hstep
              have Hcnt := Lib.hid hcnt
              have Hpre := Lib.hid hpre
              clear hp1 hp2 hp3 hp hp' hstep hcnt hful hful2 hlen hpre hbel ih hq hql hjq hchild' hcount
              go_wp2_with (first | (refine wpList_load_core rfl _ rfl b (off + j * 7) _ rfl h9 ?_) | (go_at_call 69; refine (hcall _).mono ?_; clear hcall; rintro e w3 (⟨q', hq', rfl, hj'⟩ | ⟨rfl, q', hq', hj'⟩)) | fail)
              · go_roundw
                case rel =>
                  refine ⟨j + 1, p - ch.count, rfl, by go_num, Nat.succ_le_of_lt hjn, .inl ⟨q ++ q', ?_, ?_, by rw [← List.append_assoc]; exact hj'⟩⟩
                  · rw [nds_append, Hq.out, hq', Hstep.out, Hp.out]
                  · exact nums_next Hcnt.out Hp.out
                case measure => simp [intOf]; omega
              · go_roundw
                case rel =>
                  refine ⟨j + 1, 0, rfl, by go_num, Nat.succ_le_of_lt hjn, .inr ⟨rfl, q ++ q', ?_, by rw [← List.append_assoc]; exact hj'⟩⟩
                  apply Hpre.out
                  rw [nds_append, Hq.out, Hstep.out, ← Hp.out]
                  exact (List.prefix_append_right_inj _).mpr hq'
                case measure => simp [intOf]; omega
        · obtain rfl : j = ls.length := by omega
          have hdj : decide ((ls.length : Int) < ls.length) = false := by simp
          have Hrel := Lib.hid hrel
          clear hrel hl ih
          go_wp2_with fail
          gi_wp2
          go_ret
          rcases Hrel.out with ⟨q, hq, hp, hjq⟩ | ⟨hp, q, hq, hjq⟩
          · refine .inl ⟨q, ?_, ?_, hjq⟩
            · rw [hq]
              have e := HX.out
              subst e
              exact fore_all (.mk k s nn ls) left
            · rw [hp, List.take_length, HXc.out]; rfl
          · exact .inr ⟨by rw [hp]; rfl, q, hq, hjq⟩
    · go_ret
      refine .inr ⟨rfl, [x0], ?_, hx2⟩
      rw [Hx0.out]; exact fore_prefix _ _ _
end K
end Go.Proofs.YtonhmjfopidacaaDoor
