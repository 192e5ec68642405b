/- The maker's nodes and node; core.Of; what the laws of layer 8 lean on. -/
import Derived.Test.YtlgpbgcheeaalaaGreatDoorCoreTwo
import Derived.Test.YtlgpbgcheeaalaaGreatDoorCoreOne
/-! The maker of a core: nodes, walked. -/
namespace Go.Proofs.YtlgpbgcheeaalaaGreatDoor
namespace K
set_option maxRecDepth 100000
open Go.RowKit
theorem Nd.lit {W : World} {x : Nd} {cs : List Value} (h : Nd.at W x cs) : ∃ (k : Int) (s : BitVec 256) (lo hi n : Int) (a : Option Addr) (len cap : Nat), cs = [.int .i64 k, .int .u64 (word s 0), .int .u64 (word s 1), .int .u64 (word s 2), .int .u64 (word s 3), .int .i64 lo, .int .i64 hi, .int .i64 n, .slice a len cap] := by
  cases x with
  | mk k s lo hi n l =>
    rw [Go.Proofs.YtlgpbgcheeaalaaGreatDoor.at_mk] at h
    obtain ⟨_, _, _, _, a, cap, hcs, _, _⟩ := h
    exact ⟨_, s, lo, hi, n, a, _, cap, hcs⟩
theorem wpList_make_core {ops : Array Oper} {rest : List Oper} {o : Oper} {a : Act} {w : World} {Q : Exit → Act → World → Prop} (hgd : o.guard = none) (x y : Operand) (ho : o.op = .makeSlice 28 x y) (n : Nat)
    (hx : a.eval x = .int .i64 n) (hy : a.eval y = .int .i64 n) (hn : n ≤ 100000)
    (h : ∀ w' arr, w'.heap[w.heap.size]? = some (.cells arr 30) → arr.size = n * 7 → Below w.heap.size w w' → wpList Tryz.prog ops Q rest (a.put o.dst (.slice (some ⟨w.heap.size, 0, none⟩) n n)) w') : wpList Tryz.prog ops Q (o :: rest) a w := by
  obtain ⟨i0, hi, hz0, hz1, hz2⟩ := info_parts info_core
  have hr := run_make (P := Tryz.prog) w 28 30 i0 zeroCore Tryz.underlying28 hi hz0 .i64 .i64 n n (by omega) (Int.le_refl _) (by rw [hz2]; omega) (by omega)
  simp only [Int.toNat_natCast, hz1] at hr
  refine wpList_plain hgd fun _ hK => ?_
  unfold Oper.wp execOp
  simp only [ho, hx, hy, hr, Sem.run_bind, Sem.run_pure, Result.andThen_ok]
  exact hK _ _ (h _ _ (World.alloc_heap_new w _) (by rw [size_madeCells]) ((Below.refl _ _).alloc (Nat.le_refl _) _))
theorem mkAll_snoc (x : Nd) : ∀ (l : List Nd) (sz : Nat), mkAll (l ++ [x]) sz = ((mkAll l sz).1 ++ [(Nd.mkC x (mkAll l sz).2).1], (Nd.mkC x (mkAll l sz).2).2)
  | [], sz => by rw [List.nil_append, mkAll_cons, mkAll_nil, mkAll_nil]; rfl
  | y :: l, sz => by
    rw [List.cons_append, mkAll_cons, mkAll_snoc x l, mkAll_cons]
    rfl
theorem mkAll_take (l : List Nd) (sz j : Nat) (hj : j < l.length) : mkAll (l.take (j + 1)) sz = ((mkAll (l.take j) sz).1 ++ [(Nd.mkC l[j] (mkAll (l.take j) sz).2).1], (Nd.mkC l[j] (mkAll (l.take j) sz).2).2) := by
  rw [List.take_succ_eq_append_getElem hj, mkAll_snoc]
/-- the list half filled -/
def FillSt (w : World) (R n : Nat) (W : World) (acc : List (Cr × List Value)) (sz : Nat) : Prop :=
  (∃ arr : Array Value, W.heap[w.heap.size]? = some (.cells arr 30) ∧ arr.size = n * 7 ∧ arr.toList.take (acc.length * 7) = acc.flatMap (·.2)) ∧ (∀ z ∈ acc, CrIn (fromB (w.heap.size + 1)) W z.1 z.2) ∧ Var W R (.int .i64 (sz : Int)) 86 ∧ But R w W
theorem FillSt.call {w W W' : World} {R n sz sz' : Nat} {acc : List (Cr × List Value)} (h : FillSt w R n W acc sz) (hR : R < w.heap.size) (hb : But R W W') (hv : Var W' R (.int .i64 (sz' : Int)) 86) : FillSt w R n W' acc sz' := by
  obtain ⟨⟨arr, h1, h2, h3⟩, h4, h5, h6⟩ := h
  exact ⟨⟨arr, (hb.block _ (lt_of_block h1) (by omega)).trans h1, h2, h3⟩, fun z hz => (h4 z hz).step hb fun k hk _ => ⟨hk, by have := fromB_ge hk; omega⟩, hv, h6.trans hb⟩
theorem FillSt.later {w W W' : World} {R n sz : Nat} {acc : List (Cr × List Value)} (h : FillSt w R n W acc sz) (hR : R < w.heap.size) (hb : Below W.heap.size W W') : FillSt w R n W' acc sz :=
  h.call hR (But.of_below hb) (h.2.2.1.below hb h.2.2.1.lt)
theorem fill_cells {arr : Array Value} {acc : List (Cr × List Value)} {cs : List Value} {n : Nat} (h2 : arr.size = n * 7) (h3 : arr.toList.take (acc.length * 7) = acc.flatMap (·.2)) (hc : cs.length = 7) (hn : acc.length < n) :
    (arr.toList.take (acc.length * 7) ++ cs ++ arr.toList.drop (acc.length * 7 + 7)).toArray.size = n * 7 ∧ ∀ (y : Cr), (arr.toList.take (acc.length * 7) ++ cs ++ arr.toList.drop (acc.length * 7 + 7)).toArray.toList.take ((acc ++ [(y, cs)]).length * 7) = (acc ++ [(y, cs)]).flatMap (·.2) := by
  have hl0 : arr.toList.length = n * 7 := h2
  have hl : (arr.toList.take (acc.length * 7)).length = acc.length * 7 := by rw [List.length_take, hl0]; omega
  refine ⟨?_, fun y => ?_⟩
  · rw [List.size_toArray, List.length_append, List.length_append, hl, hc, List.length_drop, hl0]; omega
  · rw [List.toList_toArray, List.take_append_of_le_length (by simp only [List.length_append, hl, hc, List.length_singleton]; omega), List.take_of_length_le (by simp only [List.length_append, hl, hc, List.length_singleton]; omega), h3, List.flatMap_append]
    simp
theorem FillSt.put {w W W' : World} {R n sz : Nat} {acc : List (Cr × List Value)} {y : Cr} {cs : List Value} (h : FillSt w R n W acc sz) (hR : R < w.heap.size) (hy : CrIn (fromB (w.heap.size + 1)) W y cs) (hn : acc.length < n) {arr : Array Value} (h1 : W.heap[w.heap.size]? = some (.cells arr 30))
    (hs : W'.heap[w.heap.size]? = some (.cells (arr.toList.take (acc.length * 7) ++ cs ++ arr.toList.drop (acc.length * 7 + 7)).toArray 30)) (ho : Only w.heap.size W W') : FillSt w R n W' (acc ++ [(y, cs)]) sz := by
  obtain ⟨⟨arr', h1', h2, h3⟩, h4, h5, h6⟩ := h
  rw [h1] at h1'
  injection h1' with h1'
  injection h1' with h1'
  subst h1'
  obtain ⟨g1, g2⟩ := fill_cells h2 h3 (at_len hy.at) hn
  refine ⟨⟨_, hs, g1, g2 y⟩, fun z hz => ?_, var_only ho h5 (by omega), h6.only_new ho (Nat.le_refl _)⟩
  rcases List.mem_append.1 hz with hz | hz
  · exact (h4 z hz).onto ho fun k hk _ => ⟨hk, by have := fromB_ge hk; omega⟩
  · rw [List.mem_singleton] at hz
    subst hz
    exact hy.onto ho fun k hk _ => ⟨hk, by have := fromB_ge hk; omega⟩
theorem FillSt.row {w W : World} {R n sz : Nat} {acc : List (Cr × List Value)} (h : FillSt w R n W acc sz) (hn : acc.length = n) (hm : n ≤ 100000) : RowIn (fromB w.heap.size) W (.slice (some ⟨w.heap.size, 0, none⟩) n n) (acc.map (·.1)) := by
  obtain ⟨⟨arr, h1, h2, h3⟩, h4, _, _⟩ := h
  refine row_made acc (fun z hz => (h4 z hz).mono (Nat.le_refl _) fun k hk _ => ⟨fromB_le hk (Nat.le_succ _), rfl⟩) (by simp [maxLen]; omega) (fromB_yes (Nat.le_refl _)) ?_ hn.symm
  rw [← h3, hn, List.take_of_length_le (show arr.toList.length ≤ n * 7 from Nat.le_of_eq h2)]
  simpa using h1
/-- what a call of nodes ends in -/
def RowsPost (R : Nat) (w : World) (r : List Cr × Nat) (e : Ending) (w' : World) : Prop :=
  ∃ v : Value, e = .returned v ∧ RowIn (fromB w.heap.size) w' v r.1 ∧ Var w' R (.int .i64 (r.2 : Int)) 86 ∧ But R w w'
set_option maxHeartbeats 8000000 in
theorem nodesC_walk {W0 : World} {R : Nat} {l : List Nd} {a : Option Addr} {cap : Nat} (hl : l.length = 0 ∨ ∃ b off, a = some ⟨b, off, none⟩ ∧ l.length ≤ cap ∧ b < W0.heap.size ∧ nodesAt W0 l b off) (hlen : l.length ≤ 2000)
    (hK : ∀ y ∈ l, ∀ cs, Nd.at W0 y cs → NodeOk W0 R cs (Nd.mkC y)) {D : Nat} (hD : D ≤ 7000000) (hS : ∀ y ∈ l, Small D (Nd.mkC y)) (hR : W0.heap.size ≤ R) (w : World) (sz : Nat) (hb : Below W0.heap.size W0 w) (hv : Var w R (.int .i64 (sz : Int)) 86) (hsz : sz ≤ 2000) :
    Calls Tryz.prog 67 #[.pointer (some ⟨R, 0, none⟩), .slice a l.length cap] w (RowsPost R w (mkAll l sz)) := by
  have Hlt := Lib.hid hv.lt
  have Hv := Lib.hid hv
  have Hb := Lib.hid hb
  have HK := Lib.hid hK
  have HS := Lib.hid hS
  have HR := Lib.hid hR
  have Hl := Lib.hid hl
  obtain ⟨n, hn⟩ : ∃ n, n = l.length := ⟨_, rfl⟩
  rw [← hn] at hl hlen ⊢
  have Hn := Lib.hid hn
  have hnn : n ≤ 2000 := hlen
  clear hv hb hK hS hR hl hn hlen
  go_enter Tryz.func67, Tryz.ntmps67
  go_wp2_with (first | (refine wpList_make_core rfl _ _ rfl n rfl rfl (by omega) ?_; intro w1 arr0 harr0 hsz0 hb1; have H1 := Lib.hid (And.intro harr0 (And.intro hsz0 hb1)); clear harr0 hsz0 hb1) | fail)
  go_loopw [13] (fun i wr => ∃ (j : Nat) (acc : List (Cr × List Value)), i = .int .i64 (j : Int) ∧ j ≤ n ∧ Hid (acc.length = j ∧ acc.map (·.1) = (mkAll (l.take j) sz).1) ∧ Hid (FillSt w R n wr acc (mkAll (l.take j) sz).2)) (fun i _ => n - (intOf i).toNat)
  case atStart =>
    refine ⟨0, [], rfl, Nat.zero_le _, ⟨rfl, ?_⟩, ⟨⟨arr0, H1.out.1, H1.out.2.1, rfl⟩, (fun z hz => by cases hz), ?_, But.of_below H1.out.2.2⟩⟩
    · rw [List.take_zero, mkAll_nil]; rfl
    · rw [List.take_zero, mkAll_nil]; exact Hv.out.below H1.out.2.2 Hv.out.lt
  case round =>
    obtain ⟨j, acc, rfl, hj, hacc, hst⟩ := hrel
    by_cases hjn : j < n
    · have hd : decide ((j : Int) < n) = true := by simp; omega
      have hd2 : decide (j < n) = true := decide_eq_true hjn
      have hjl : j < l.length := by have := Hn.out; omega
      have hstep := mkAll_take l sz j hjl
      have hmem : l[j] ∈ l := List.getElem_mem hjl
      rcases Hl.out with hl0 | ⟨b, off, hba, hcap, hbw, hnodes⟩
      · omega
      · subst hba
        obtain ⟨cs, hcs, hcell, hchild⟩ := Go.Proofs.YtlgpbgcheeaalaaGreatDoor.nodes_get W0 b l off hnodes j hjl
        have hlowr : Below W0.heap.size W0 wr := hst.out.2.2.2.below Hb.out HR.out Hb.out.size
        have hnode := HK.out l[j] hmem cs hchild
        obtain ⟨kc, sc, loc, hic, nc, ac, lenc, capc, rfl⟩ := Nd.lit hchild
        have h9 : Node9 wr b (off + j * 9) [.int .i64 kc, .int .u64 (word sc 0), .int .u64 (word sc 1), .int .u64 (word sc 2), .int .u64 (word sc 3), .int .i64 loc, .int .i64 hic, .int .i64 nc, .slice ac lenc capc] := ⟨hcs, fun q hq => by rw [hlowr.cell (p := ⟨b, off + j * 9 + q, none⟩) hbw]; exact hcell q hq⟩
        have hbx0 : NodeIn (wr.alloc (.cells #[.int .i64 0, .int .u64 0, .int .u64 0, .int .u64 0, .int .u64 0, .int .i64 0, .int .i64 0, .int .i64 0, .slice none 0 0] 39)) wr.heap.size #[.int .i64 0, .int .u64 0, .int .u64 0, .int .u64 0, .int .u64 0, .int .i64 0, .int .i64 0, .int .i64 0, .slice none 0 0] := World.alloc_heap_new wr _
        have hszj : (mkAll (l.take j) sz).2 ≤ 100000000 := by
          have := all_small (l.take j) (fun y hy => HS.out y (List.take_subset _ _ hy)) sz
          omega
        have Hnode := Lib.hid hnode
        have H9 := Lib.hid h9
        have Hbx0 := Lib.hid hbx0
        have Hlow := Lib.hid hlowr
        have Hstep := Lib.hid hstep
        clear hcs hcell hchild hnodes hnode h9 hbx0 hlowr hstep hmem
        go_wp2_with (first
          | (refine wpList_load_node rfl _ rfl b (off + j * 9) _ rfl H9.out ?_)
          | (refine wpList_store_node rfl _ _ rfl wr.heap.size #[.int .i64 0, .int .u64 0, .int .u64 0, .int .u64 0, .int .u64 0, .int .i64 0, .int .i64 0, .int .i64 0, .slice none 0 0] #[.int .i64 kc, .int .u64 (word sc 0), .int .u64 (word sc 1), .int .u64 (word sc 2), .int .u64 (word sc 3), .int .i64 loc, .int .i64 hic, .int .i64 nc, .slice ac lenc capc] rfl rfl Hbx0.out rfl rfl (by simp [Value.oneCell']) ?_; intro w2 hs2 ho2
             have Hst2 := Lib.hid (hst.out.later Hlt.out (ho2.below (alloc_below wr _) (Nat.le_refl _)))
             have H92 := Lib.hid (node9_in (cs := [.int .i64 kc, .int .u64 (word sc 0), .int .u64 (word sc 1), .int .u64 (word sc 2), .int .u64 (word sc 3), .int .i64 loc, .int .i64 hic, .int .i64 nc, .slice ac lenc capc]) hs2 rfl)
             clear hs2 ho2)
          | (refine wpList_load_node rfl _ rfl wr.heap.size 0 _ rfl H92.out ?_)
          | (go_at_call 37; refine (Hnode.out w2 (mkAll (l.take j) sz).2 (Hst2.out.2.2.2.below Hb.out HR.out Hb.out.size) Hst2.out.2.2.1 hszj).mono ?_; rintro e w3 ⟨ds, rfl, hy, hv3, hb3⟩
             obtain ⟨kd, sd, nd, ad, lend, capd, rfl⟩ := hy.lit
             have hst3 := Hst2.out.call Hlt.out hb3 hv3
             have hy2 := hy.mono (Nat.le_refl _) (q := fromB (w.heap.size + 1)) fun k hk _ => ⟨fromB_le hk (by obtain ⟨⟨_, h, _⟩, _⟩ := Hst2.out; exact lt_of_block h), rfl⟩
             obtain ⟨⟨arr, ha1, ha2, ha3⟩, hrest⟩ := hst3
             have Hst3 := Lib.hid (show FillSt w R n w3 acc (Nd.mkC l[j] (mkAll (l.take j) sz).2).2 from ⟨⟨arr, ha1, ha2, ha3⟩, hrest⟩)
             have Ha := Lib.hid (And.intro ha1 ha2)
             have Hy := Lib.hid hy2
             clear hy hy2 hv3 hb3 ha1 ha2 ha3 hrest)
          | (refine wpList_store_part rfl 30 _ _ rfl w.heap.size (j * 7) #[.int .i64 kd, .int .u64 (word sd 0), .int .u64 (word sd 1), .int .u64 (word sd 2), .int .u64 (word sd 3), .int .i64 nd, .slice ad lend capd] rfl rfl 30 arr _ Ha.out.1 infoCore (by have := Ha.out.2; simp; omega) (by simp [Value.oneCell']) rfl ?_; intro w4 hs4 ho4; have H4 := Lib.hid (And.intro hs4 ho4); clear hs4 ho4)
          | fail)
        go_roundw
        case rel =>
          refine ⟨j + 1, acc ++ [((Nd.mkC l[j] (mkAll (l.take j) sz).2).1, [.int .i64 kd, .int .u64 (word sd 0), .int .u64 (word sd 1), .int .u64 (word sd 2), .int .u64 (word sd 3), .int .i64 nd, .slice ad lend capd])], by go_num, by omega, ⟨by rw [List.length_append, hacc.out.1]; rfl, ?_⟩, ?_⟩
          · rw [Hstep.out, List.map_append, hacc.out.2]; rfl
          · show FillSt _ _ _ _ _ _
            rw [Hstep.out]
            have h4 := H4.out.1
            rw [← hacc.out.1] at h4
            exact Hst3.out.put Hlt.out Hy.out (by rw [hacc.out.1]; exact hjn) Ha.out.1 h4 H4.out.2
        case measure => (simp [intOf] <;> omega)
    · obtain rfl : j = n := by omega
      have hd : decide ((j : Int) < j) = false := by simp
      go_wp2_with fail
      go_ret
      have h := hst.out
      have he := hacc.out.2
      rw [List.take_of_length_le (by have := Hn.out; omega)] at h he
      refine ⟨_, rfl, ?_, h.2.2.1, h.2.2.2⟩
      rw [← he]
      exact h.row hacc.out.1 (by omega)

end K
end Go.Proofs.YtlgpbgcheeaalaaGreatDoor
/-! The maker of a core: node, walked. -/
namespace Go.Proofs.YtlgpbgcheeaalaaGreatDoor
namespace K
set_option maxRecDepth 100000
open Go.RowKit
theorem free_fork3 {P : Program} {ops : Array Oper} {Q : Exit → Act → World → Prop} {i j k : Nat} {r s t : Plan} {a : Act} {w : World} (h1 : stepFree P ops Q i (wpFree P ops Q r) a w) (h2 : stepFree P ops Q j (wpFree P ops Q s) a w) (h3 : stepFree P ops Q k (wpFree P ops Q t) a w) : wpFree P ops Q (.fork3 i r j s k t) a w := ⟨h1, h2, h3⟩
theorem node_cells {W : World} {b : Nat} {c0 c1 c2 c3 c4 c5 c6 c7 c8 : Value} (h : NodeIn W b #[c0, c1, c2, c3, c4, c5, c6, c7, c8]) : W.cell? ⟨b, 0, none⟩ = some c0 ∧ W.cell? ⟨b, 5, none⟩ = some c5 ∧ W.cell? ⟨b, 6, none⟩ = some c6 ∧ W.cell? ⟨b, 7, none⟩ = some c7 ∧ W.cell? ⟨b, 8, none⟩ = some c8 := by
  refine ⟨?_, ?_, ?_, ?_, ?_⟩ <;> (rw [cells_at h]; rfl)
theorem node_set4 {W : World} {b : Nat} {k : Int} {s : BitVec 256} {lo hi n : Int} {v : Value} (h : NodeIn W b #[.int .i64 k, .int .u64 (word s 0), .int .u64 (word s 1), .int .u64 (word s 2), .int .u64 (word s 3), .int .i64 lo, .int .i64 hi, .int .i64 n, v]) : Set4 W b 1 s := by
  intro q hq
  rw [cells_at h]
  match q, hq with
  | 0, _ => rfl
  | 1, _ => rfl
  | 2, _ => rfl
  | 3, _ => rfl
theorem CrIn.leaf {p : Nat → Bool} {w : World} {k : Int} {cs : List Value} (h : CrIn p w (leafC k) cs) : ∃ a cap, cs = [.int .i64 k, .int .u64 (word 0 0), .int .u64 (word 0 1), .int .u64 (word 0 2), .int .u64 (word 0 3), .int .i64 0, .slice a 0 cap] := by
  unfold CrIn at h
  rw [at_mk] at h
  obtain ⟨_, _, a, cap, e, _⟩ := h
  exact ⟨a, cap, e⟩
theorem CrIn.named {p : Nat → Bool} {w : World} {k : Int} {L : List Cr} {cs : List Value} (h : CrIn p w (.mk k 0 0 L) cs) : ∃ a cap, cs = [.int .i64 k, .int .u64 (word 0 0), .int .u64 (word 0 1), .int .u64 (word 0 2), .int .u64 (word 0 3), .int .i64 0, .slice a L.length cap] := by
  unfold CrIn at h
  rw [at_mk] at h
  obtain ⟨_, _, a, cap, e, _⟩ := h
  exact ⟨a, cap, e⟩
theorem CrIn.renew {p : Nat → Bool} {w : World} {k n n' : Int} {s s' : BitVec 256} {L : List Cr} {a : Option Addr} {len cap : Nat} (h : CrIn p w (.mk k s n L) [.int .i64 k, .int .u64 (word s 0), .int .u64 (word s 1), .int .u64 (word s 2), .int .u64 (word s 3), .int .i64 n, .slice a len cap]) (hn : fits64 n') :
    CrIn p w (.mk k s' n' L) [.int .i64 k, .int .u64 (word s' 0), .int .u64 (word s' 1), .int .u64 (word s' 2), .int .u64 (word s' 3), .int .i64 n', .slice a len cap] := by
  unfold CrIn at h ⊢
  rw [at_mk] at h ⊢
  obtain ⟨h1, h4, a', cap', h5, h6, h7⟩ := h
  simp only [List.cons.injEq, Value.slice.injEq, and_true, true_and] at h5
  obtain ⟨rfl, rfl, rfl⟩ := h5
  exact ⟨h1, hn, a, cap, rfl, h6, h7⟩
theorem storeVar_one (w : World) (g off : Nat) (t ty : TypeId) (old : Array Value) (v : Value) (hg : w.heap[g]? = some (.cells old t (0, 0))) (hi : (Tryz.prog.info? ty).map (·.size) = some 1) (ho : off + 1 ≤ old.size) (hv : v.cells = #[v]) (h1 : v.oneCell' = true) :
    (storeVar ty ⟨g, off, none⟩ v).run Tryz.prog w = .ok () (w.setRow g (old.toList.take off ++ [v] ++ old.toList.drop (off + 1)).toArray) := by
  have h := run_storeCells_at Tryz.prog g off t [v] 0 old w hg (by simpa using ho) (fun u hu => by rw [List.mem_singleton] at hu; subst hu; exact h1)
  cases hq : Tryz.prog.info? ty with
  | none => simp [hq] at hi
  | some i =>
    have hs : 1 = i.size := by simp [hq] at hi; omega
    rw [Nat.add_zero] at h
    simp [storeVar, sizeOf, typeInfo, hq, hv, ← hs]
    simpa using h
theorem info_int : (Tryz.prog.info? 3).map (·.size) = some 1 := by kernel_rfl
theorem wpList_store_int {ops : Array Oper} {rest : List Oper} {o : Oper} {a : Act} {w : World} {Q : Exit → Act → World → Prop} (hgd : o.guard = none) (x y : Operand) (ho : o.op = .store 3 x y)
    (g off : Nat) (z : Int) (hx : a.eval x = .pointer (some ⟨g, off, none⟩)) (hy : a.eval y = .int .i64 z) (t : TypeId) (old new : Array Value) (hg : w.heap[g]? = some (.cells old t (0, 0))) (hold : off + 1 ≤ old.size) (hnew : (old.toList.take off ++ [Value.int .i64 z] ++ old.toList.drop (off + 1)).toArray = new)
    (h : ∀ w', w'.heap[g]? = some (.cells new t) → Only g w w' → wpList Tryz.prog ops Q rest (a.put o.dst undef) w') : wpList Tryz.prog ops Q (o :: rest) a w :=
  wpList_plain hgd fun _ hK => by
    unfold Oper.wp execOp
    simp only [ho, hx, hy, Instr.storeAt, Instr.sureAddr, Sem.run_bind, Sem.run_pure, Result.andThen_ok, storeVar_one w g off t 3 old (.int .i64 z) hg info_int hold rfl rfl, hnew]
    exact hK _ _ (h _ (setRow_heap w g old _ t _ hg) (only_row _ _ _))
/-- a result that was made, stored: the end of a walk -/
theorem node_end {R sz : Nat} {w W1 wn w5 : World} {x : Cr} {ds : List Value} (hal : Below w.heap.size w W1) (hs1 : W1.heap.size = w.heap.size + 2) (hR : R < w.heap.size) (hin : CrIn (fromB W1.heap.size) wn x ds) (hv : Var wn R (.int .i64 (sz : Int)) 86) (hb : But R W1 wn) (ho : Only (w.heap.size + 1) wn w5) :
    MkPost R (fromB w.heap.size) w (x, sz) (.returned (.agg ds.toArray)) w5 :=
  post_tail hin (fun b hb => ⟨fromB_le hb (by omega), by have := fromB_ge hb; omega⟩) hv ((But.of_below hal).trans hb) hR (by omega) ho
theorem res_but {R : Nat} {w W1 wn : World} {cs : Array Value} (_ : W1.heap.size = w.heap.size + 2) (hR : R < w.heap.size) (hn : CoreIn W1 (w.heap.size + 1) cs) (hb : But R W1 wn) : CoreIn wn (w.heap.size + 1) cs := core_but hb hn (by omega)
set_option maxHeartbeats 8000000 in
theorem node_step {W0 : World} {R : Nat} (hR : W0.heap.size ≤ R) {D : Nat} (hD : D ≤ 6000000) {k lo hi n : Int} {s : BitVec 256} {l : List Nd} {a : Option Addr} {cap : Nat}
    (hl : l.length = 0 ∨ ∃ b off, a = some ⟨b, off, none⟩ ∧ l.length ≤ cap ∧ b < W0.heap.size ∧ nodesAt W0 l b off) (hfn : fits64 n)
    (hkids : ∀ y ∈ l, ∀ cs, Nd.at W0 y cs → NodeOk W0 R cs (Nd.mkC y)) (hS : ∀ y ∈ l, Small D (Nd.mkC y)) (hlen : l.length ≤ 2000)
    (hcase : (k = 1 ∧ l = []) ∨ ((k = 2 ∨ k = 3) ∧ 2 ≤ l.length) ∨ (∃ y, l = [y] ∧ (k = 4 ∧ 0 ≤ lo ∧ lo ≤ 255 ∧ hi ≤ 255 ∧ (hi = -1 ∨ lo ≤ hi) ∨ k = 5 ∨ k = 6))) :
    NodeOk W0 R [.int .i64 k, .int .u64 (word s 0), .int .u64 (word s 1), .int .u64 (word s 2), .int .u64 (word s 3), .int .i64 lo, .int .i64 hi, .int .i64 n, .slice a l.length cap] (Nd.mkC (.mk k s lo hi n l)) := by
  intro w sz hb hv hsz
  by_cases h0 : 2000 < sz
  · -- it is full
    rw [mkC_mk, if_pos h0]
    obtain ⟨W1, hW1⟩ : ∃ W1, W1 = (w.alloc (.cells #[.int .i64 k, .int .u64 (word s 0), .int .u64 (word s 1), .int .u64 (word s 2), .int .u64 (word s 3), .int .i64 lo, .int .i64 hi, .int .i64 n, .slice a l.length cap] 39)).alloc (.cells #[.int .i64 0, .int .u64 0, .int .u64 0, .int .u64 0, .int .u64 0, .int .i64 0, .slice none 0 0] 30) := ⟨_, rfl⟩
    obtain ⟨hal, hs1, hbx, hres⟩ := boxed_core w _ _ hW1
    have hv1 := hv.below hal hv.lt
    have hfull := full_walk hv1
    rw [show decide (2000 < sz) = true from by simp; omega] at hfull
    have hb1 := hb.trans (hal.mono hb.size)
    obtain ⟨c0, c5, c6, c7, c8⟩ := node_cells hbx
    have H4 := Lib.hid (node_set4 hbx)
    have Hfull := Lib.hid hfull
    have Hlt := Lib.hid hv.lt
    have Hv1 := Lib.hid (And.intro hv1 (And.intro hb1 hbx))
    have H1 := Lib.hid (And.intro hal (And.intro hs1 (And.intro hbx hres)))
    clear hcase hS hlen hD hfn
    clear hal hs1 hbx hres hv1 hfull hb1 hv hb hkids hl
    generalize l.length = len at *
    go_enter Tryz.func37, Tryz.ntmps37
    go_upto_region 1 with fail
    rw [← hW1]
    clear hW1
    go_wp2_with (first
      | (go_at_call 38; refine Hfull.out.mono ?_; rintro e wf ⟨rfl, hwf⟩; subst wf)
      | (refine wpList_store_core rfl _ _ rfl (w.heap.size + 1) _ #[.int .i64 0, .int .u64 0, .int .u64 0, .int .u64 0, .int .u64 0, .int .i64 0, .slice none 0 0] rfl rfl H1.out.2.2.2 rfl rfl (by simp [Value.oneCell']) ?_; intro w5 hs5 ho5; have H5 := Lib.hid (And.intro hs5 ho5); clear hs5 ho5)
      | fail)
    refine bodyPost_ret (v := .agg #[.int .i64 0, .int .u64 0, .int .u64 0, .int .u64 0, .int .u64 0, .int .i64 0, .slice none 0 0]) (results_core rfl _ _ (w.heap.size + 1) _ rfl H5.out.1 rfl) rfl ?_
    exact node_end H1.out.1 H1.out.2.1 Hlt.out ((RowIn.core (.inl ⟨rfl, rfl⟩) rfl rfl) : CrIn (fromB W1.heap.size) W1 zeroC _) Hv1.out.1 (But.refl _ _) H5.out.2
  · have hsz2 : sz ≤ 2000 := by omega
    have hm : max sz (2000 + D) ≤ 10000000 := by omega
    rcases hcase with ⟨rfl, rfl⟩ | ⟨hk, h2⟩ | ⟨y, rfl, hk⟩
    · -- a set
      rw [mkC_mk, if_neg h0, if_pos rfl]
      obtain ⟨W1, hW1⟩ : ∃ W1, W1 = (w.alloc (.cells #[.int .i64 1, .int .u64 (word s 0), .int .u64 (word s 1), .int .u64 (word s 2), .int .u64 (word s 3), .int .i64 lo, .int .i64 hi, .int .i64 n, .slice a 0 cap] 39)).alloc (.cells #[.int .i64 0, .int .u64 0, .int .u64 0, .int .u64 0, .int .u64 0, .int .i64 0, .slice none 0 0] 30) := ⟨_, rfl⟩
      obtain ⟨hal, hs1, hbx, hres⟩ := boxed_core w _ _ hW1
      have hv1 := hv.below hal hv.lt
      have hfull := full_walk hv1
      rw [show decide (2000 < sz) = false from by simp; omega] at hfull
      have hb1 := hb.trans (hal.mono hb.size)
      obtain ⟨c0, c5, c6, c7, c8⟩ := node_cells hbx
      have H4 := Lib.hid (node_set4 hbx)
      have Hfull := Lib.hid hfull
      have Hlt := Lib.hid hv.lt
      have Hv1 := Lib.hid (And.intro hv1 (And.intro hb1 hbx))
      have H1 := Lib.hid (And.intro hal (And.intro hs1 (And.intro hbx hres)))
      have hleaf := leaf_part (q := fromB W1.heap.size) (k := 2) hv1 (fromB_no (by have := hv.lt; omega)) rfl (by omega)
      have Hleaf := Lib.hid hleaf
      clear hleaf h0 hm
      clear hal hs1 hbx hres hv1 hfull hb1 hv hb hkids hl
      go_enter Tryz.func37, Tryz.ntmps37
      go_upto_region 1 with fail
      rw [← hW1]
      clear hW1
      go_wp2_with (first
        | (go_at_call 38; refine Hfull.out.mono ?_; rintro e wf ⟨rfl, hwf⟩; subst wf)
        | (go_at_call 65; refine Hleaf.out.mono ?_; rintro e w2 ⟨c2, rfl, hy, hv', hb'⟩; obtain ⟨a2, cap2, rfl⟩ := hy.leaf; have H2 := Lib.hid (And.intro hy (And.intro hv' hb')); have Hr2 := Lib.hid (res_but H1.out.2.1 Hlt.out H1.out.2.2.2 hb'); clear hy hv' hb')
        | (refine wpList_store_core rfl _ _ rfl w2.heap.size #[.int .i64 0, .int .u64 0, .int .u64 0, .int .u64 0, .int .u64 0, .int .i64 0, .slice none 0 0] #[.int .i64 2, .int .u64 (word 0 0), .int .u64 (word 0 1), .int .u64 (word 0 2), .int .u64 (word 0 3), .int .i64 0, .slice a2 0 cap2] rfl rfl (World.alloc_heap_new w2 _) rfl rfl (by simp [Value.oneCell']) ?_; intro w3 hs3 ho3; have Hst := Lib.hid (OptSt.first H1.out.1 H1.out.2.1 H1.out.2.2.2 Hlt.out H2.out.1 H2.out.2.1 H2.out.2.2 hs3 ho3); have H43 := Lib.hid (show Set4 w3 w.heap.size 1 s from node_set4 ((ho3.block _ (by have := H2.out.2.2.size; have := H1.out.2.1; omega)).trans (((alloc_below w2 _).block _ (by have := H2.out.2.2.size; have := H1.out.2.1; omega)).trans ((H2.out.2.2.block _ (by have := H1.out.2.1; omega) (by have := Hlt.out; omega)).trans H1.out.2.2.1)))); clear hs3 ho3)
        | (refine wpList_load_set rfl _ rfl w.heap.size 1 s rfl H43.out ?_)
        | (refine wpList_store_part rfl 27 _ _ rfl w2.heap.size 1 #[.int .u64 (word s 0), .int .u64 (word s 1), .int .u64 (word s 2), .int .u64 (word s 3)] rfl rfl 30 _ #[.int .i64 2, .int .u64 (word s 0), .int .u64 (word s 1), .int .u64 (word s 2), .int .u64 (word s 3), .int .i64 0, .slice a2 0 cap2] Hst.out.2.2.2.2.1 infoSet (by simp) (by simp [Value.oneCell']) rfl ?_; intro w4 hs4 ho4; have Hst4 := Lib.hid (Hst.out.put (ds := [.int .i64 2, .int .u64 (word s 0), .int .u64 (word s 1), .int .u64 (word s 2), .int .u64 (word s 3), .int .i64 0, .slice a2 0 cap2]) Hlt.out (Hst.out.1.renew (s' := s) (n' := 0) rfl) hs4 ho4); clear hs4 ho4; have H7 := Lib.hid (core7_in (cs := [.int .i64 2, .int .u64 (word s 0), .int .u64 (word s 1), .int .u64 (word s 2), .int .u64 (word s 3), .int .i64 0, .slice a2 0 cap2]) Hst4.out.2.2.2.2.1 rfl))
        | (refine wpList_load_core rfl _ rfl w2.heap.size 0 _ rfl H7.out ?_)
        | (refine wpList_store_core rfl _ _ rfl (w.heap.size + 1) _ #[.int .i64 2, .int .u64 (word s 0), .int .u64 (word s 1), .int .u64 (word s 2), .int .u64 (word s 3), .int .i64 0, .slice a2 0 cap2] rfl rfl Hst4.out.2.2.2.1 rfl rfl (by simp [Value.oneCell']) ?_; intro w5 hs5 ho5; have H5 := Lib.hid (And.intro hs5 ho5); clear hs5 ho5)
        | fail)
      refine bodyPost_ret (v := .agg #[.int .i64 2, .int .u64 (word s 0), .int .u64 (word s 1), .int .u64 (word s 2), .int .u64 (word s 3), .int .i64 0, .slice a2 0 cap2]) (results_core rfl _ _ (w.heap.size + 1) _ rfl H5.out.1 rfl) rfl ?_
      exact Hst4.out.fin Hlt.out Hst4.out.1 H5.out.2
    · rcases hk with rfl | rfl
      · rw [mkC_mk, if_neg h0, if_neg (show ¬ (2 : Int) = 1 by decide), if_pos rfl]
        obtain ⟨W1, hW1⟩ : ∃ W1, W1 = (w.alloc (.cells #[.int .i64 2, .int .u64 (word s 0), .int .u64 (word s 1), .int .u64 (word s 2), .int .u64 (word s 3), .int .i64 lo, .int .i64 hi, .int .i64 n, .slice a l.length cap] 39)).alloc (.cells #[.int .i64 0, .int .u64 0, .int .u64 0, .int .u64 0, .int .u64 0, .int .i64 0, .slice none 0 0] 30) := ⟨_, rfl⟩
        obtain ⟨hal, hs1, hbx, hres⟩ := boxed_core w _ _ hW1
        have hv1 := hv.below hal hv.lt
        have hfull := full_walk hv1
        rw [show decide (2000 < sz) = false from by simp; omega] at hfull
        have hb1 := hb.trans (hal.mono hb.size)
        obtain ⟨c0, c5, c6, c7, c8⟩ := node_cells hbx
        have H4 := Lib.hid (node_set4 hbx)
        have Hfull := Lib.hid hfull
        have Hlt := Lib.hid hv.lt
        have Hv1 := Lib.hid (And.intro hv1 (And.intro hb1 hbx))
        have H1 := Lib.hid (And.intro hal (And.intro hs1 (And.intro hbx hres)))
        have hns := nodesC_walk hl hlen hkids (by omega) hS hR W1 sz hb1 hv1 hsz2
        have Hns := Lib.hid hns
        have hall := all_small (D := D) l hS sz
        have hszr : (mkAll l sz).2 ≤ 100000000 := by omega
        have hlr : (mkAll l sz).1.length ≤ 100000 := by rw [mkAll_length]; omega
        have hner : (mkAll l sz).1 ≠ [] := fun h => by have := congrArg List.length h; rw [mkAll_length, List.length_nil] at this; omega
        have Hlr := Lib.hid (And.intro hlr (And.intro hner hszr))
        clear hns hlr hner h0 hm h2 hlen hall hszr hS
        clear hal hs1 hbx hres hv1 hfull hb1 hv hb hkids hl
        generalize l.length = len at *
        go_enter Tryz.func37, Tryz.ntmps37
        go_upto_region 1 with fail
        rw [← hW1]
        clear hW1
        go_wp2_with (first
          | (go_at_call 38; refine Hfull.out.mono ?_; rintro e wf ⟨rfl, hwf⟩; subst wf)
          | (go_at_call 67; refine Hns.out.mono ?_; rintro e w2 ⟨v2, rfl, hrow, hv', hb'⟩; have H2 := Lib.hid (And.intro hrow (And.intro hv' hb')); clear hrow hv' hb')
          | (go_at_call 66; refine ((join_walk (k := 3) H2.out.2.1 (fromB_no (by have := Hlt.out; have := H1.out.2.1; omega)) H2.out.1 Hlr.out.2.1 rfl Hlr.out.2.2 Hlr.out.1).mono fun _ _ hp => (hp.wide H2.out.2.2 (q := fromB W1.heap.size) fun b hb => by rcases Bool.or_eq_true_iff.1 hb with h | h; exact h; exact fromB_yes (by have := of_decide_eq_true h; have := H2.out.2.2.size; omega))).mono ?_; rintro e w3 ⟨c3, rfl, hy, hv', hb'⟩; obtain ⟨k3, s3, n3, a3, len3, cap3, rfl⟩ := hy.lit; have H3 := Lib.hid (And.intro hy (And.intro hv' hb')); have Hr3 := Lib.hid (res_but H1.out.2.1 Hlt.out H1.out.2.2.2 hb'); clear hy hv' hb')
          | (refine wpList_store_core rfl _ _ rfl (w.heap.size + 1) _ #[.int .i64 k3, .int .u64 (word s3 0), .int .u64 (word s3 1), .int .u64 (word s3 2), .int .u64 (word s3 3), .int .i64 n3, .slice a3 len3 cap3] rfl rfl Hr3.out rfl rfl (by simp [Value.oneCell']) ?_; intro w5 hs5 ho5; have H5 := Lib.hid (And.intro hs5 ho5); clear hs5 ho5)
          | fail)
        refine bodyPost_ret (v := .agg #[.int .i64 k3, .int .u64 (word s3 0), .int .u64 (word s3 1), .int .u64 (word s3 2), .int .u64 (word s3 3), .int .i64 n3, .slice a3 len3 cap3]) (results_core rfl _ _ (w.heap.size + 1) _ rfl H5.out.1 rfl) rfl ?_
        exact node_end (x := (joinM 3 (mkAll l sz)).1) (sz := (joinM 3 (mkAll l sz)).2) H1.out.1 H1.out.2.1 Hlt.out H3.out.1 H3.out.2.1 H3.out.2.2 H5.out.2
      · rw [mkC_mk, if_neg h0, if_neg (show ¬ (3 : Int) = 1 by decide), if_neg (show ¬ (3 : Int) = 2 by decide), if_pos rfl]
        obtain ⟨W1, hW1⟩ : ∃ W1, W1 = (w.alloc (.cells #[.int .i64 3, .int .u64 (word s 0), .int .u64 (word s 1), .int .u64 (word s 2), .int .u64 (word s 3), .int .i64 lo, .int .i64 hi, .int .i64 n, .slice a l.length cap] 39)).alloc (.cells #[.int .i64 0, .int .u64 0, .int .u64 0, .int .u64 0, .int .u64 0, .int .i64 0, .slice none 0 0] 30) := ⟨_, rfl⟩
        obtain ⟨hal, hs1, hbx, hres⟩ := boxed_core w _ _ hW1
        have hv1 := hv.below hal hv.lt
        have hfull := full_walk hv1
        rw [show decide (2000 < sz) = false from by simp; omega] at hfull
        have hb1 := hb.trans (hal.mono hb.size)
        obtain ⟨c0, c5, c6, c7, c8⟩ := node_cells hbx
        have H4 := Lib.hid (node_set4 hbx)
        have Hfull := Lib.hid hfull
        have Hlt := Lib.hid hv.lt
        have Hv1 := Lib.hid (And.intro hv1 (And.intro hb1 hbx))
        have H1 := Lib.hid (And.intro hal (And.intro hs1 (And.intro hbx hres)))
        have hns := nodesC_walk hl hlen hkids (by omega) hS hR W1 sz hb1 hv1 hsz2
        have Hns := Lib.hid hns
        have hall := all_small (D := D) l hS sz
        have hszr : (mkAll l sz).2 ≤ 100000000 := by omega
        have hlr : (mkAll l sz).1.length ≤ 100000 := by rw [mkAll_length]; omega
        have hner : (mkAll l sz).1 ≠ [] := fun h => by have := congrArg List.length h; rw [mkAll_length, List.length_nil] at this; omega
        have Hlr := Lib.hid (And.intro hlr (And.intro hner hszr))
        clear hns hlr hner h0 hm h2 hlen hall hszr hS
        clear hal hs1 hbx hres hv1 hfull hb1 hv hb hkids hl
        generalize l.length = len at *
        go_enter Tryz.func37, Tryz.ntmps37
        go_upto_region 1 with fail
        rw [← hW1]
        clear hW1
        go_wp2_with (first
          | (go_at_call 38; refine Hfull.out.mono ?_; rintro e wf ⟨rfl, hwf⟩; subst wf)
          | (go_at_call 67; refine Hns.out.mono ?_; rintro e w2 ⟨v2, rfl, hrow, hv', hb'⟩; have H2 := Lib.hid (And.intro hrow (And.intro hv' hb')); clear hrow hv' hb')
          | (go_at_call 66; refine ((join_walk (k := 4) H2.out.2.1 (fromB_no (by have := Hlt.out; have := H1.out.2.1; omega)) H2.out.1 Hlr.out.2.1 rfl Hlr.out.2.2 Hlr.out.1).mono fun _ _ hp => (hp.wide H2.out.2.2 (q := fromB W1.heap.size) fun b hb => by rcases Bool.or_eq_true_iff.1 hb with h | h; exact h; exact fromB_yes (by have := of_decide_eq_true h; have := H2.out.2.2.size; omega))).mono ?_; rintro e w3 ⟨c3, rfl, hy, hv', hb'⟩; obtain ⟨k3, s3, n3, a3, len3, cap3, rfl⟩ := hy.lit; have H3 := Lib.hid (And.intro hy (And.intro hv' hb')); have Hr3 := Lib.hid (res_but H1.out.2.1 Hlt.out H1.out.2.2.2 hb'); clear hy hv' hb')
          | (refine wpList_store_core rfl _ _ rfl (w.heap.size + 1) _ #[.int .i64 k3, .int .u64 (word s3 0), .int .u64 (word s3 1), .int .u64 (word s3 2), .int .u64 (word s3 3), .int .i64 n3, .slice a3 len3 cap3] rfl rfl Hr3.out rfl rfl (by simp [Value.oneCell']) ?_; intro w5 hs5 ho5; have H5 := Lib.hid (And.intro hs5 ho5); clear hs5 ho5)
          | fail)
        refine bodyPost_ret (v := .agg #[.int .i64 k3, .int .u64 (word s3 0), .int .u64 (word s3 1), .int .u64 (word s3 2), .int .u64 (word s3 3), .int .i64 n3, .slice a3 len3 cap3]) (results_core rfl _ _ (w.heap.size + 1) _ rfl H5.out.1 rfl) rfl ?_
        exact node_end (x := (joinM 4 (mkAll l sz)).1) (sz := (joinM 4 (mkAll l sz)).2) H1.out.1 H1.out.2.1 Hlt.out H3.out.1 H3.out.2.1 H3.out.2.2 H5.out.2
    · have e2 : ∀ sz, headM [y] sz = Nd.mkC y sz := fun sz => by rw [headM]
      rcases hk with ⟨rfl, g0, g1, g2, g3⟩ | rfl | rfl
      · rw [mkC_mk, if_neg h0, if_neg (show ¬ (4 : Int) = 1 by decide), if_neg (show ¬ (4 : Int) = 2 by decide), if_neg (show ¬ (4 : Int) = 3 by decide), if_pos rfl, show headM [y] = Nd.mkC y from funext e2]
        obtain ⟨W1, hW1⟩ : ∃ W1, W1 = (w.alloc (.cells #[.int .i64 4, .int .u64 (word s 0), .int .u64 (word s 1), .int .u64 (word s 2), .int .u64 (word s 3), .int .i64 lo, .int .i64 hi, .int .i64 n, .slice a 1 cap] 39)).alloc (.cells #[.int .i64 0, .int .u64 0, .int .u64 0, .int .u64 0, .int .u64 0, .int .i64 0, .slice none 0 0] 30) := ⟨_, rfl⟩
        obtain ⟨hal, hs1, hbx, hres⟩ := boxed_core w _ _ hW1
        have hv1 := hv.below hal hv.lt
        have hfull := full_walk hv1
        rw [show decide (2000 < sz) = false from by simp; omega] at hfull
        have hb1 := hb.trans (hal.mono hb.size)
        obtain ⟨c0, c5, c6, c7, c8⟩ := node_cells hbx
        have H4 := Lib.hid (node_set4 hbx)
        have Hfull := Lib.hid hfull
        have Hlt := Lib.hid hv.lt
        have Hv1 := Lib.hid (And.intro hv1 (And.intro hb1 hbx))
        have H1 := Lib.hid (And.intro hal (And.intro hs1 (And.intro hbx hres)))
        have hcb : ∃ b off cs0, a = some ⟨b, off, none⟩ ∧ 1 ≤ cap ∧ Node9 W1 b off cs0 ∧ Nd.at W0 y cs0 ∧ (∀ W, Below W0.heap.size W0 W → Node9 W b off cs0) := by
          rcases hl with h | ⟨b, off, e, h1, h2, h3⟩
          · simp at h
          · obtain ⟨cs0, g1, g2, g3⟩ := Go.Proofs.YtlgpbgcheeaalaaGreatDoor.nodes_get W0 b [y] off h3 0 (by simp)
            have hall : ∀ W, Below W0.heap.size W0 W → Node9 W b off cs0 := fun W hW => ⟨g1, fun q hq => by have h := g2 q hq; rw [Nat.zero_mul, Nat.add_zero] at h; rw [hW.cell (p := ⟨b, off + q, none⟩) h2]; exact h⟩
            exact ⟨b, off, cs0, e, h1, hall W1 hb1, g3, hall⟩
        obtain ⟨b, off, cs0, rfl, hcap, h9, hy0, h9all⟩ := hcb
        have hnode := hkids y (by simp) cs0 hy0
        obtain ⟨kc, sc, loc, hic, nc, ac, lenc, capc, rfl⟩ := Nd.lit hy0
        have H9 := Lib.hid h9
        have H9all := Lib.hid h9all
        have Hnode := Lib.hid hnode
        clear h9 hnode hy0 h9all
        obtain ⟨wd, hwd⟩ : ∃ wd, wd = W1.drew := ⟨_, rfl⟩
        have hbd : Below W1.heap.size W1 wd := by rw [hwd]; exact drew_below W1
        have hbxd : NodeIn wd w.heap.size #[.int .i64 4, .int .u64 (word s 0), .int .u64 (word s 1), .int .u64 (word s 2), .int .u64 (word s 3), .int .i64 lo, .int .i64 hi, .int .i64 n, .slice (some ⟨b, off, none⟩) 1 cap] := (hbd.block _ (lt_of_block hbx)).trans hbx
        obtain ⟨c0d, c5d, c6d, c7d, c8d⟩ := node_cells hbxd
        have hbW := hb1.trans (hbd.mono hb1.size)
        have hrep := repetition_walk Hnode.out hR (hS y (by simp)) wd sz lo hi hbW (hv1.below hbd hv1.lt) g0 g1 g2 g3 hm
        have Hrep := Lib.hid hrep
        have H9d := Lib.hid (H9all.out wd hbW)
        have Hd := Lib.hid hbd
        clear hrep hbd hbxd hbW h0 hm hS hlen g0 g1 g2 g3
        clear hal hs1 hbx hres hv1 hfull hb1 hv hb hkids hl
        go_enter Tryz.func37, Tryz.ntmps37
        go_upto_region 1 with fail
        rw [← hW1]
        clear hW1
        go_upto_region 13 with (first
          | (go_at_call 38; refine Hfull.out.mono ?_; rintro e wf ⟨rfl, hwf⟩; subst wf)
          | fail)
        refine wp_region_free (.plain 0 (.plain 1 (.plain 5 (.plain 7 (.fork3 2 (.plain 3 (.fork3 4 (.fork 6 (.sole 8 (.sole 9 (.sole 10 .done))) 8 (.sole 6 (.sole 9 (.sole 10 .done)))) 6 (.fork 4 (.sole 8 (.sole 9 (.sole 10 .done))) 8 (.sole 4 (.sole 9 (.sole 10 .done)))) 8 (.fork 4 (.sole 6 (.sole 9 (.sole 10 .done))) 6 (.sole 4 (.sole 9 (.sole 10 .done)))))) 6 (.fork 2 (.plain 3 (.fork 4 (.sole 8 (.sole 9 (.sole 10 .done))) 8 (.sole 4 (.sole 9 (.sole 10 .done))))) 8 (.sole 2 (.plain 3 (.sole 4 (.sole 9 (.sole 10 .done)))))) 8 (.fork 2 (.plain 3 (.fork 4 (.sole 6 (.sole 9 (.sole 10 .done))) 6 (.sole 4 (.sole 9 (.sole 10 .done))))) 6 (.sole 2 (.plain 3 (.sole 4 (.sole 9 (.sole 10 .done))))))))))) (by kernel_rfl) (by kernel_rfl) (fun c a d v w h => by cases d <;> exact h) ?_
        rw [← hwd]
        clear hwd
        iterate 4
          refine' free_plain ?_ ?_ (fun K hK => ?_)
          rotate_left 1
          · simp only [List.getElem?_toArray, List.getElem?_cons_zero, List.getElem?_cons_succ]; exact rfl
          · exact rfl
          go_big_quiet_op
          refine hK _ ?_
          clear hK K
          try simp only [Act.put, List.setIfInBounds_toArray, List.set_cons_zero, List.set_cons_succ]
        refine free_fork3 ?_ ?_ ?_
        · refine' free_step ?_ ?_ (fun K hK => ?_)
          rotate_left 1
          · simp only [List.getElem?_toArray, List.getElem?_cons_zero, List.getElem?_cons_succ]; exact rfl
          · exact rfl
          unfold Oper.wp execOp
          go_simp
          refine hK _ _ ?_
          clear hK K
          iterate 1
            refine' free_plain ?_ ?_ (fun K hK => ?_)
            rotate_left 1
            · simp only [List.getElem?_toArray, List.getElem?_cons_zero, List.getElem?_cons_succ]; exact rfl
            · exact rfl
            go_big_quiet_op
            refine hK _ ?_
            clear hK K
            try simp only [Act.put, List.setIfInBounds_toArray, List.set_cons_zero, List.set_cons_succ]
          refine free_fork3 ?_ ?_ ?_
          · refine' free_step ?_ ?_ (fun K hK => ?_)
            rotate_left 1
            · simp only [List.getElem?_toArray, List.getElem?_cons_zero, List.getElem?_cons_succ]; exact rfl
            · exact rfl
            refine wp_load_nodeK _ rfl b off _ rfl H9d.out ?_
            refine hK _ _ ?_
            clear hK K
            try simp only [Act.put, List.setIfInBounds_toArray, List.set_cons_zero, List.set_cons_succ]
            refine free_fork ?_ ?_
            · refine' free_step ?_ ?_ (fun K hK => ?_)
              rotate_left 1
              · simp only [List.getElem?_toArray, List.getElem?_cons_zero, List.getElem?_cons_succ]; exact rfl
              · exact rfl
              unfold Oper.wp execOp
              go_simp
              refine hK _ _ ?_
              clear hK K
              refine' free_sole ?_ ?_ (fun K hK => ?_)
              rotate_left 1
              · simp only [List.getElem?_toArray, List.getElem?_cons_zero, List.getElem?_cons_succ]; exact rfl
              · exact rfl
              unfold Oper.wp execOp
              go_simp
              refine hK _ _ ?_
              clear hK K
              refine' free_sole ?_ ?_ (fun K hK => ?_)
              rotate_left 1
              · simp only [List.getElem?_toArray, List.getElem?_cons_zero, List.getElem?_cons_succ]; exact rfl
              · exact rfl
              go_simp
              refine (Hrep.out).mono ?_
              rintro e w2 ⟨c2, rfl, hy, hv', hb'⟩
              refine hK _ _ ?_
              obtain ⟨k2, s2, n2, a2, len2, cap2, rfl⟩ := hy.lit
              have H2 := Lib.hid (And.intro hy (And.intro hv' hb'))
              have Hr2 := Lib.hid (core_but hb' (core_later Hd.out H1.out.2.2.2) (by have := Hlt.out; omega))
              clear hy hv' hb'
              clear hK K
              try simp only [Act.put, List.setIfInBounds_toArray, List.set_cons_zero, List.set_cons_succ]
              refine' free_sole ?_ ?_ (fun K hK => ?_)
              rotate_left 1
              · simp only [List.getElem?_toArray, List.getElem?_cons_zero, List.getElem?_cons_succ]; exact rfl
              · exact rfl
              refine wp_store_core _ _ rfl (w.heap.size + 1) _ #[.int .i64 k2, .int .u64 (word s2 0), .int .u64 (word s2 1), .int .u64 (word s2 2), .int .u64 (word s2 3), .int .i64 n2, .slice a2 len2 cap2] rfl rfl Hr2.out rfl rfl (by simp [Value.oneCell']) ?_
              intro w5 hs5 ho5
              refine hK _ _ ?_
              have H5 := Lib.hid (And.intro hs5 ho5)
              clear hs5 ho5
              clear hK K
              try simp only [Act.put]
              refine free_done ?_
              go_wp2_with fail
              refine bodyPost_ret (v := .agg #[.int .i64 k2, .int .u64 (word s2 0), .int .u64 (word s2 1), .int .u64 (word s2 2), .int .u64 (word s2 3), .int .i64 n2, .slice a2 len2 cap2]) (results_core rfl _ _ (w.heap.size + 1) _ rfl H5.out.1 rfl) rfl ?_
              exact node_end (x := (repM (Nd.mkC y) lo hi sz).1) (sz := (repM (Nd.mkC y) lo hi sz).2) (W1 := W1) H1.out.1 H1.out.2.1 Hlt.out (H2.out.1.mono (Nat.le_refl _) fun k hk _ => ⟨fromB_le hk Hd.out.size, rfl⟩) H2.out.2.1 ((But.of_below Hd.out).trans H2.out.2.2) H5.out.2
            · refine' free_step ?_ ?_ (fun K hK => ?_)
              rotate_left 1
              · simp only [List.getElem?_toArray, List.getElem?_cons_zero, List.getElem?_cons_succ]; exact rfl
              · exact rfl
              unfold Oper.wp execOp
              go_simp
              refine hK _ _ ?_
              clear hK K
              refine' free_sole ?_ ?_ (fun K hK => ?_)
              rotate_left 1
              · simp only [List.getElem?_toArray, List.getElem?_cons_zero, List.getElem?_cons_succ]; exact rfl
              · exact rfl
              unfold Oper.wp execOp
              go_simp
              refine hK _ _ ?_
              clear hK K
              refine' free_sole ?_ ?_ (fun K hK => ?_)
              rotate_left 1
              · simp only [List.getElem?_toArray, List.getElem?_cons_zero, List.getElem?_cons_succ]; exact rfl
              · exact rfl
              go_simp
              refine (Hrep.out).mono ?_
              rintro e w2 ⟨c2, rfl, hy, hv', hb'⟩
              refine hK _ _ ?_
              obtain ⟨k2, s2, n2, a2, len2, cap2, rfl⟩ := hy.lit
              have H2 := Lib.hid (And.intro hy (And.intro hv' hb'))
              have Hr2 := Lib.hid (core_but hb' (core_later Hd.out H1.out.2.2.2) (by have := Hlt.out; omega))
              clear hy hv' hb'
              clear hK K
              try simp only [Act.put, List.setIfInBounds_toArray, List.set_cons_zero, List.set_cons_succ]
              refine' free_sole ?_ ?_ (fun K hK => ?_)
              rotate_left 1
              · simp only [List.getElem?_toArray, List.getElem?_cons_zero, List.getElem?_cons_succ]; exact rfl
              · exact rfl
              refine wp_store_core _ _ rfl (w.heap.size + 1) _ #[.int .i64 k2, .int .u64 (word s2 0), .int .u64 (word s2 1), .int .u64 (word s2 2), .int .u64 (word s2 3), .int .i64 n2, .slice a2 len2 cap2] rfl rfl Hr2.out rfl rfl (by simp [Value.oneCell']) ?_
              intro w5 hs5 ho5
              refine hK _ _ ?_
              have H5 := Lib.hid (And.intro hs5 ho5)
              clear hs5 ho5
              clear hK K
              try simp only [Act.put]
              refine free_done ?_
              go_wp2_with fail
              refine bodyPost_ret (v := .agg #[.int .i64 k2, .int .u64 (word s2 0), .int .u64 (word s2 1), .int .u64 (word s2 2), .int .u64 (word s2 3), .int .i64 n2, .slice a2 len2 cap2]) (results_core rfl _ _ (w.heap.size + 1) _ rfl H5.out.1 rfl) rfl ?_
              exact node_end (x := (repM (Nd.mkC y) lo hi sz).1) (sz := (repM (Nd.mkC y) lo hi sz).2) (W1 := W1) H1.out.1 H1.out.2.1 Hlt.out (H2.out.1.mono (Nat.le_refl _) fun k hk _ => ⟨fromB_le hk Hd.out.size, rfl⟩) H2.out.2.1 ((But.of_below Hd.out).trans H2.out.2.2) H5.out.2
          · refine' free_step ?_ ?_ (fun K hK => ?_)
            rotate_left 1
            · simp only [List.getElem?_toArray, List.getElem?_cons_zero, List.getElem?_cons_succ]; exact rfl
            · exact rfl
            unfold Oper.wp execOp
            go_simp
            refine hK _ _ ?_
            clear hK K
            refine free_fork ?_ ?_
            · refine' free_step ?_ ?_ (fun K hK => ?_)
              rotate_left 1
              · simp only [List.getElem?_toArray, List.getElem?_cons_zero, List.getElem?_cons_succ]; exact rfl
              · exact rfl
              refine wp_load_nodeK _ rfl b off _ rfl H9d.out ?_
              refine hK _ _ ?_
              clear hK K
              try simp only [Act.put, List.setIfInBounds_toArray, List.set_cons_zero, List.set_cons_succ]
              refine' free_sole ?_ ?_ (fun K hK => ?_)
              rotate_left 1
              · simp only [List.getElem?_toArray, List.getElem?_cons_zero, List.getElem?_cons_succ]; exact rfl
              · exact rfl
              unfold Oper.wp execOp
              go_simp
              refine hK _ _ ?_
              clear hK K
              refine' free_sole ?_ ?_ (fun K hK => ?_)
              rotate_left 1
              · simp only [List.getElem?_toArray, List.getElem?_cons_zero, List.getElem?_cons_succ]; exact rfl
              · exact rfl
              go_simp
              refine (Hrep.out).mono ?_
              rintro e w2 ⟨c2, rfl, hy, hv', hb'⟩
              refine hK _ _ ?_
              obtain ⟨k2, s2, n2, a2, len2, cap2, rfl⟩ := hy.lit
              have H2 := Lib.hid (And.intro hy (And.intro hv' hb'))
              have Hr2 := Lib.hid (core_but hb' (core_later Hd.out H1.out.2.2.2) (by have := Hlt.out; omega))
              clear hy hv' hb'
              clear hK K
              try simp only [Act.put, List.setIfInBounds_toArray, List.set_cons_zero, List.set_cons_succ]
              refine' free_sole ?_ ?_ (fun K hK => ?_)
              rotate_left 1
              · simp only [List.getElem?_toArray, List.getElem?_cons_zero, List.getElem?_cons_succ]; exact rfl
              · exact rfl
              refine wp_store_core _ _ rfl (w.heap.size + 1) _ #[.int .i64 k2, .int .u64 (word s2 0), .int .u64 (word s2 1), .int .u64 (word s2 2), .int .u64 (word s2 3), .int .i64 n2, .slice a2 len2 cap2] rfl rfl Hr2.out rfl rfl (by simp [Value.oneCell']) ?_
              intro w5 hs5 ho5
              refine hK _ _ ?_
              have H5 := Lib.hid (And.intro hs5 ho5)
              clear hs5 ho5
              clear hK K
              try simp only [Act.put]
              refine free_done ?_
              go_wp2_with fail
              refine bodyPost_ret (v := .agg #[.int .i64 k2, .int .u64 (word s2 0), .int .u64 (word s2 1), .int .u64 (word s2 2), .int .u64 (word s2 3), .int .i64 n2, .slice a2 len2 cap2]) (results_core rfl _ _ (w.heap.size + 1) _ rfl H5.out.1 rfl) rfl ?_
              exact node_end (x := (repM (Nd.mkC y) lo hi sz).1) (sz := (repM (Nd.mkC y) lo hi sz).2) (W1 := W1) H1.out.1 H1.out.2.1 Hlt.out (H2.out.1.mono (Nat.le_refl _) fun k hk _ => ⟨fromB_le hk Hd.out.size, rfl⟩) H2.out.2.1 ((But.of_below Hd.out).trans H2.out.2.2) H5.out.2
            · refine' free_step ?_ ?_ (fun K hK => ?_)
              rotate_left 1
              · simp only [List.getElem?_toArray, List.getElem?_cons_zero, List.getElem?_cons_succ]; exact rfl
              · exact rfl
              unfold Oper.wp execOp
              go_simp
              refine hK _ _ ?_
              clear hK K
              refine' free_sole ?_ ?_ (fun K hK => ?_)
              rotate_left 1
              · simp only [List.getElem?_toArray, List.getElem?_cons_zero, List.getElem?_cons_succ]; exact rfl
              · exact rfl
              refine wp_load_nodeK _ rfl b off _ rfl H9d.out ?_
              refine hK _ _ ?_
              clear hK K
              try simp only [Act.put, List.setIfInBounds_toArray, List.set_cons_zero, List.set_cons_succ]
              refine' free_sole ?_ ?_ (fun K hK => ?_)
              rotate_left 1
              · simp only [List.getElem?_toArray, List.getElem?_cons_zero, List.getElem?_cons_succ]; exact rfl
              · exact rfl
              go_simp
              refine (Hrep.out).mono ?_
              rintro e w2 ⟨c2, rfl, hy, hv', hb'⟩
              refine hK _ _ ?_
              obtain ⟨k2, s2, n2, a2, len2, cap2, rfl⟩ := hy.lit
              have H2 := Lib.hid (And.intro hy (And.intro hv' hb'))
              have Hr2 := Lib.hid (core_but hb' (core_later Hd.out H1.out.2.2.2) (by have := Hlt.out; omega))
              clear hy hv' hb'
              clear hK K
              try simp only [Act.put, List.setIfInBounds_toArray, List.set_cons_zero, List.set_cons_succ]
              refine' free_sole ?_ ?_ (fun K hK => ?_)
              rotate_left 1
              · simp only [List.getElem?_toArray, List.getElem?_cons_zero, List.getElem?_cons_succ]; exact rfl
              · exact rfl
              refine wp_store_core _ _ rfl (w.heap.size + 1) _ #[.int .i64 k2, .int .u64 (word s2 0), .int .u64 (word s2 1), .int .u64 (word s2 2), .int .u64 (word s2 3), .int .i64 n2, .slice a2 len2 cap2] rfl rfl Hr2.out rfl rfl (by simp [Value.oneCell']) ?_
              intro w5 hs5 ho5
              refine hK _ _ ?_
              have H5 := Lib.hid (And.intro hs5 ho5)
              clear hs5 ho5
              clear hK K
              try simp only [Act.put]
              refine free_done ?_
              go_wp2_with fail
              refine bodyPost_ret (v := .agg #[.int .i64 k2, .int .u64 (word s2 0), .int .u64 (word s2 1), .int .u64 (word s2 2), .int .u64 (word s2 3), .int .i64 n2, .slice a2 len2 cap2]) (results_core rfl _ _ (w.heap.size + 1) _ rfl H5.out.1 rfl) rfl ?_
              exact node_end (x := (repM (Nd.mkC y) lo hi sz).1) (sz := (repM (Nd.mkC y) lo hi sz).2) (W1 := W1) H1.out.1 H1.out.2.1 Hlt.out (H2.out.1.mono (Nat.le_refl _) fun k hk _ => ⟨fromB_le hk Hd.out.size, rfl⟩) H2.out.2.1 ((But.of_below Hd.out).trans H2.out.2.2) H5.out.2
          · refine' free_step ?_ ?_ (fun K hK => ?_)
            rotate_left 1
            · simp only [List.getElem?_toArray, List.getElem?_cons_zero, List.getElem?_cons_succ]; exact rfl
            · exact rfl
            unfold Oper.wp execOp
            go_simp
            refine hK _ _ ?_
            clear hK K
            refine free_fork ?_ ?_
            · refine' free_step ?_ ?_ (fun K hK => ?_)
              rotate_left 1
              · simp only [List.getElem?_toArray, List.getElem?_cons_zero, List.getElem?_cons_succ]; exact rfl
              · exact rfl
              refine wp_load_nodeK _ rfl b off _ rfl H9d.out ?_
              refine hK _ _ ?_
              clear hK K
              try simp only [Act.put, List.setIfInBounds_toArray, List.set_cons_zero, List.set_cons_succ]
              refine' free_sole ?_ ?_ (fun K hK => ?_)
              rotate_left 1
              · simp only [List.getElem?_toArray, List.getElem?_cons_zero, List.getElem?_cons_succ]; exact rfl
              · exact rfl
              unfold Oper.wp execOp
              go_simp
              refine hK _ _ ?_
              clear hK K
              refine' free_sole ?_ ?_ (fun K hK => ?_)
              rotate_left 1
              · simp only [List.getElem?_toArray, List.getElem?_cons_zero, List.getElem?_cons_succ]; exact rfl
              · exact rfl
              go_simp
              refine (Hrep.out).mono ?_
              rintro e w2 ⟨c2, rfl, hy, hv', hb'⟩
              refine hK _ _ ?_
              obtain ⟨k2, s2, n2, a2, len2, cap2, rfl⟩ := hy.lit
              have H2 := Lib.hid (And.intro hy (And.intro hv' hb'))
              have Hr2 := Lib.hid (core_but hb' (core_later Hd.out H1.out.2.2.2) (by have := Hlt.out; omega))
              clear hy hv' hb'
              clear hK K
              try simp only [Act.put, List.setIfInBounds_toArray, List.set_cons_zero, List.set_cons_succ]
              refine' free_sole ?_ ?_ (fun K hK => ?_)
              rotate_left 1
              · simp only [List.getElem?_toArray, List.getElem?_cons_zero, List.getElem?_cons_succ]; exact rfl
              · exact rfl
              refine wp_store_core _ _ rfl (w.heap.size + 1) _ #[.int .i64 k2, .int .u64 (word s2 0), .int .u64 (word s2 1), .int .u64 (word s2 2), .int .u64 (word s2 3), .int .i64 n2, .slice a2 len2 cap2] rfl rfl Hr2.out rfl rfl (by simp [Value.oneCell']) ?_
              intro w5 hs5 ho5
              refine hK _ _ ?_
              have H5 := Lib.hid (And.intro hs5 ho5)
              clear hs5 ho5
              clear hK K
              try simp only [Act.put]
              refine free_done ?_
              go_wp2_with fail
              refine bodyPost_ret (v := .agg #[.int .i64 k2, .int .u64 (word s2 0), .int .u64 (word s2 1), .int .u64 (word s2 2), .int .u64 (word s2 3), .int .i64 n2, .slice a2 len2 cap2]) (results_core rfl _ _ (w.heap.size + 1) _ rfl H5.out.1 rfl) rfl ?_
              exact node_end (x := (repM (Nd.mkC y) lo hi sz).1) (sz := (repM (Nd.mkC y) lo hi sz).2) (W1 := W1) H1.out.1 H1.out.2.1 Hlt.out (H2.out.1.mono (Nat.le_refl _) fun k hk _ => ⟨fromB_le hk Hd.out.size, rfl⟩) H2.out.2.1 ((But.of_below Hd.out).trans H2.out.2.2) H5.out.2
            · refine' free_step ?_ ?_ (fun K hK => ?_)
              rotate_left 1
              · simp only [List.getElem?_toArray, List.getElem?_cons_zero, List.getElem?_cons_succ]; exact rfl
              · exact rfl
              unfold Oper.wp execOp
              go_simp
              refine hK _ _ ?_
              clear hK K
              refine' free_sole ?_ ?_ (fun K hK => ?_)
              rotate_left 1
              · simp only [List.getElem?_toArray, List.getElem?_cons_zero, List.getElem?_cons_succ]; exact rfl
              · exact rfl
              refine wp_load_nodeK _ rfl b off _ rfl H9d.out ?_
              refine hK _ _ ?_
              clear hK K
              try simp only [Act.put, List.setIfInBounds_toArray, List.set_cons_zero, List.set_cons_succ]
              refine' free_sole ?_ ?_ (fun K hK => ?_)
              rotate_left 1
              · simp only [List.getElem?_toArray, List.getElem?_cons_zero, List.getElem?_cons_succ]; exact rfl
              · exact rfl
              go_simp
              refine (Hrep.out).mono ?_
              rintro e w2 ⟨c2, rfl, hy, hv', hb'⟩
              refine hK _ _ ?_
              obtain ⟨k2, s2, n2, a2, len2, cap2, rfl⟩ := hy.lit
              have H2 := Lib.hid (And.intro hy (And.intro hv' hb'))
              have Hr2 := Lib.hid (core_but hb' (core_later Hd.out H1.out.2.2.2) (by have := Hlt.out; omega))
              clear hy hv' hb'
              clear hK K
              try simp only [Act.put, List.setIfInBounds_toArray, List.set_cons_zero, List.set_cons_succ]
              refine' free_sole ?_ ?_ (fun K hK => ?_)
              rotate_left 1
              · simp only [List.getElem?_toArray, List.getElem?_cons_zero, List.getElem?_cons_succ]; exact rfl
              · exact rfl
              refine wp_store_core _ _ rfl (w.heap.size + 1) _ #[.int .i64 k2, .int .u64 (word s2 0), .int .u64 (word s2 1), .int .u64 (word s2 2), .int .u64 (word s2 3), .int .i64 n2, .slice a2 len2 cap2] rfl rfl Hr2.out rfl rfl (by simp [Value.oneCell']) ?_
              intro w5 hs5 ho5
              refine hK _ _ ?_
              have H5 := Lib.hid (And.intro hs5 ho5)
              clear hs5 ho5
              clear hK K
              try simp only [Act.put]
              refine free_done ?_
              go_wp2_with fail
              refine bodyPost_ret (v := .agg #[.int .i64 k2, .int .u64 (word s2 0), .int .u64 (word s2 1), .int .u64 (word s2 2), .int .u64 (word s2 3), .int .i64 n2, .slice a2 len2 cap2]) (results_core rfl _ _ (w.heap.size + 1) _ rfl H5.out.1 rfl) rfl ?_
              exact node_end (x := (repM (Nd.mkC y) lo hi sz).1) (sz := (repM (Nd.mkC y) lo hi sz).2) (W1 := W1) H1.out.1 H1.out.2.1 Hlt.out (H2.out.1.mono (Nat.le_refl _) fun k hk _ => ⟨fromB_le hk Hd.out.size, rfl⟩) H2.out.2.1 ((But.of_below Hd.out).trans H2.out.2.2) H5.out.2
        · refine' free_step ?_ ?_ (fun K hK => ?_)
          rotate_left 1
          · simp only [List.getElem?_toArray, List.getElem?_cons_zero, List.getElem?_cons_succ]; exact rfl
          · exact rfl
          unfold Oper.wp execOp
          go_simp
          refine hK _ _ ?_
          clear hK K
          refine free_fork ?_ ?_
          · refine' free_step ?_ ?_ (fun K hK => ?_)
            rotate_left 1
            · simp only [List.getElem?_toArray, List.getElem?_cons_zero, List.getElem?_cons_succ]; exact rfl
            · exact rfl
            unfold Oper.wp execOp
            go_simp
            refine hK _ _ ?_
            clear hK K
            iterate 1
              refine' free_plain ?_ ?_ (fun K hK => ?_)
              rotate_left 1
              · simp only [List.getElem?_toArray, List.getElem?_cons_zero, List.getElem?_cons_succ]; exact rfl
              · exact rfl
              go_big_quiet_op
              refine hK _ ?_
              clear hK K
              try simp only [Act.put, List.setIfInBounds_toArray, List.set_cons_zero, List.set_cons_succ]
            refine free_fork ?_ ?_
            · refine' free_step ?_ ?_ (fun K hK => ?_)
              rotate_left 1
              · simp only [List.getElem?_toArray, List.getElem?_cons_zero, List.getElem?_cons_succ]; exact rfl
              · exact rfl
              refine wp_load_nodeK _ rfl b off _ rfl H9d.out ?_
              refine hK _ _ ?_
              clear hK K
              try simp only [Act.put, List.setIfInBounds_toArray, List.set_cons_zero, List.set_cons_succ]
              refine' free_sole ?_ ?_ (fun K hK => ?_)
              rotate_left 1
              · simp only [List.getElem?_toArray, List.getElem?_cons_zero, List.getElem?_cons_succ]; exact rfl
              · exact rfl
              unfold Oper.wp execOp
              go_simp
              refine hK _ _ ?_
              clear hK K
              refine' free_sole ?_ ?_ (fun K hK => ?_)
              rotate_left 1
              · simp only [List.getElem?_toArray, List.getElem?_cons_zero, List.getElem?_cons_succ]; exact rfl
              · exact rfl
              go_simp
              refine (Hrep.out).mono ?_
              rintro e w2 ⟨c2, rfl, hy, hv', hb'⟩
              refine hK _ _ ?_
              obtain ⟨k2, s2, n2, a2, len2, cap2, rfl⟩ := hy.lit
              have H2 := Lib.hid (And.intro hy (And.intro hv' hb'))
              have Hr2 := Lib.hid (core_but hb' (core_later Hd.out H1.out.2.2.2) (by have := Hlt.out; omega))
              clear hy hv' hb'
              clear hK K
              try simp only [Act.put, List.setIfInBounds_toArray, List.set_cons_zero, List.set_cons_succ]
              refine' free_sole ?_ ?_ (fun K hK => ?_)
              rotate_left 1
              · simp only [List.getElem?_toArray, List.getElem?_cons_zero, List.getElem?_cons_succ]; exact rfl
              · exact rfl
              refine wp_store_core _ _ rfl (w.heap.size + 1) _ #[.int .i64 k2, .int .u64 (word s2 0), .int .u64 (word s2 1), .int .u64 (word s2 2), .int .u64 (word s2 3), .int .i64 n2, .slice a2 len2 cap2] rfl rfl Hr2.out rfl rfl (by simp [Value.oneCell']) ?_
              intro w5 hs5 ho5
              refine hK _ _ ?_
              have H5 := Lib.hid (And.intro hs5 ho5)
              clear hs5 ho5
              clear hK K
              try simp only [Act.put]
              refine free_done ?_
              go_wp2_with fail
              refine bodyPost_ret (v := .agg #[.int .i64 k2, .int .u64 (word s2 0), .int .u64 (word s2 1), .int .u64 (word s2 2), .int .u64 (word s2 3), .int .i64 n2, .slice a2 len2 cap2]) (results_core rfl _ _ (w.heap.size + 1) _ rfl H5.out.1 rfl) rfl ?_
              exact node_end (x := (repM (Nd.mkC y) lo hi sz).1) (sz := (repM (Nd.mkC y) lo hi sz).2) (W1 := W1) H1.out.1 H1.out.2.1 Hlt.out (H2.out.1.mono (Nat.le_refl _) fun k hk _ => ⟨fromB_le hk Hd.out.size, rfl⟩) H2.out.2.1 ((But.of_below Hd.out).trans H2.out.2.2) H5.out.2
            · refine' free_step ?_ ?_ (fun K hK => ?_)
              rotate_left 1
              · simp only [List.getElem?_toArray, List.getElem?_cons_zero, List.getElem?_cons_succ]; exact rfl
              · exact rfl
              unfold Oper.wp execOp
              go_simp
              refine hK _ _ ?_
              clear hK K
              refine' free_sole ?_ ?_ (fun K hK => ?_)
              rotate_left 1
              · simp only [List.getElem?_toArray, List.getElem?_cons_zero, List.getElem?_cons_succ]; exact rfl
              · exact rfl
              refine wp_load_nodeK _ rfl b off _ rfl H9d.out ?_
              refine hK _ _ ?_
              clear hK K
              try simp only [Act.put, List.setIfInBounds_toArray, List.set_cons_zero, List.set_cons_succ]
              refine' free_sole ?_ ?_ (fun K hK => ?_)
              rotate_left 1
              · simp only [List.getElem?_toArray, List.getElem?_cons_zero, List.getElem?_cons_succ]; exact rfl
              · exact rfl
              go_simp
              refine (Hrep.out).mono ?_
              rintro e w2 ⟨c2, rfl, hy, hv', hb'⟩
              refine hK _ _ ?_
              obtain ⟨k2, s2, n2, a2, len2, cap2, rfl⟩ := hy.lit
              have H2 := Lib.hid (And.intro hy (And.intro hv' hb'))
              have Hr2 := Lib.hid (core_but hb' (core_later Hd.out H1.out.2.2.2) (by have := Hlt.out; omega))
              clear hy hv' hb'
              clear hK K
              try simp only [Act.put, List.setIfInBounds_toArray, List.set_cons_zero, List.set_cons_succ]
              refine' free_sole ?_ ?_ (fun K hK => ?_)
              rotate_left 1
              · simp only [List.getElem?_toArray, List.getElem?_cons_zero, List.getElem?_cons_succ]; exact rfl
              · exact rfl
              refine wp_store_core _ _ rfl (w.heap.size + 1) _ #[.int .i64 k2, .int .u64 (word s2 0), .int .u64 (word s2 1), .int .u64 (word s2 2), .int .u64 (word s2 3), .int .i64 n2, .slice a2 len2 cap2] rfl rfl Hr2.out rfl rfl (by simp [Value.oneCell']) ?_
              intro w5 hs5 ho5
              refine hK _ _ ?_
              have H5 := Lib.hid (And.intro hs5 ho5)
              clear hs5 ho5
              clear hK K
              try simp only [Act.put]
              refine free_done ?_
              go_wp2_with fail
              refine bodyPost_ret (v := .agg #[.int .i64 k2, .int .u64 (word s2 0), .int .u64 (word s2 1), .int .u64 (word s2 2), .int .u64 (word s2 3), .int .i64 n2, .slice a2 len2 cap2]) (results_core rfl _ _ (w.heap.size + 1) _ rfl H5.out.1 rfl) rfl ?_
              exact node_end (x := (repM (Nd.mkC y) lo hi sz).1) (sz := (repM (Nd.mkC y) lo hi sz).2) (W1 := W1) H1.out.1 H1.out.2.1 Hlt.out (H2.out.1.mono (Nat.le_refl _) fun k hk _ => ⟨fromB_le hk Hd.out.size, rfl⟩) H2.out.2.1 ((But.of_below Hd.out).trans H2.out.2.2) H5.out.2
          · refine' free_step ?_ ?_ (fun K hK => ?_)
            rotate_left 1
            · simp only [List.getElem?_toArray, List.getElem?_cons_zero, List.getElem?_cons_succ]; exact rfl
            · exact rfl
            unfold Oper.wp execOp
            go_simp
            refine hK _ _ ?_
            clear hK K
            refine' free_sole ?_ ?_ (fun K hK => ?_)
            rotate_left 1
            · simp only [List.getElem?_toArray, List.getElem?_cons_zero, List.getElem?_cons_succ]; exact rfl
            · exact rfl
            unfold Oper.wp execOp
            go_simp
            refine hK _ _ ?_
            clear hK K
            iterate 1
              refine' free_plain ?_ ?_ (fun K hK => ?_)
              rotate_left 1
              · simp only [List.getElem?_toArray, List.getElem?_cons_zero, List.getElem?_cons_succ]; exact rfl
              · exact rfl
              go_big_quiet_op
              refine hK _ ?_
              clear hK K
              try simp only [Act.put, List.setIfInBounds_toArray, List.set_cons_zero, List.set_cons_succ]
            refine' free_sole ?_ ?_ (fun K hK => ?_)
            rotate_left 1
            · simp only [List.getElem?_toArray, List.getElem?_cons_zero, List.getElem?_cons_succ]; exact rfl
            · exact rfl
            refine wp_load_nodeK _ rfl b off _ rfl H9d.out ?_
            refine hK _ _ ?_
            clear hK K
            try simp only [Act.put, List.setIfInBounds_toArray, List.set_cons_zero, List.set_cons_succ]
            refine' free_sole ?_ ?_ (fun K hK => ?_)
            rotate_left 1
            · simp only [List.getElem?_toArray, List.getElem?_cons_zero, List.getElem?_cons_succ]; exact rfl
            · exact rfl
            go_simp
            refine (Hrep.out).mono ?_
            rintro e w2 ⟨c2, rfl, hy, hv', hb'⟩
            refine hK _ _ ?_
            obtain ⟨k2, s2, n2, a2, len2, cap2, rfl⟩ := hy.lit
            have H2 := Lib.hid (And.intro hy (And.intro hv' hb'))
            have Hr2 := Lib.hid (core_but hb' (core_later Hd.out H1.out.2.2.2) (by have := Hlt.out; omega))
            clear hy hv' hb'
            clear hK K
            try simp only [Act.put, List.setIfInBounds_toArray, List.set_cons_zero, List.set_cons_succ]
            refine' free_sole ?_ ?_ (fun K hK => ?_)
            rotate_left 1
            · simp only [List.getElem?_toArray, List.getElem?_cons_zero, List.getElem?_cons_succ]; exact rfl
            · exact rfl
            refine wp_store_core _ _ rfl (w.heap.size + 1) _ #[.int .i64 k2, .int .u64 (word s2 0), .int .u64 (word s2 1), .int .u64 (word s2 2), .int .u64 (word s2 3), .int .i64 n2, .slice a2 len2 cap2] rfl rfl Hr2.out rfl rfl (by simp [Value.oneCell']) ?_
            intro w5 hs5 ho5
            refine hK _ _ ?_
            have H5 := Lib.hid (And.intro hs5 ho5)
            clear hs5 ho5
            clear hK K
            try simp only [Act.put]
            refine free_done ?_
            go_wp2_with fail
            refine bodyPost_ret (v := .agg #[.int .i64 k2, .int .u64 (word s2 0), .int .u64 (word s2 1), .int .u64 (word s2 2), .int .u64 (word s2 3), .int .i64 n2, .slice a2 len2 cap2]) (results_core rfl _ _ (w.heap.size + 1) _ rfl H5.out.1 rfl) rfl ?_
            exact node_end (x := (repM (Nd.mkC y) lo hi sz).1) (sz := (repM (Nd.mkC y) lo hi sz).2) (W1 := W1) H1.out.1 H1.out.2.1 Hlt.out (H2.out.1.mono (Nat.le_refl _) fun k hk _ => ⟨fromB_le hk Hd.out.size, rfl⟩) H2.out.2.1 ((But.of_below Hd.out).trans H2.out.2.2) H5.out.2
        · refine' free_step ?_ ?_ (fun K hK => ?_)
          rotate_left 1
          · simp only [List.getElem?_toArray, List.getElem?_cons_zero, List.getElem?_cons_succ]; exact rfl
          · exact rfl
          unfold Oper.wp execOp
          go_simp
          refine hK _ _ ?_
          clear hK K
          refine free_fork ?_ ?_
          · refine' free_step ?_ ?_ (fun K hK => ?_)
            rotate_left 1
            · simp only [List.getElem?_toArray, List.getElem?_cons_zero, List.getElem?_cons_succ]; exact rfl
            · exact rfl
            unfold Oper.wp execOp
            go_simp
            refine hK _ _ ?_
            clear hK K
            iterate 1
              refine' free_plain ?_ ?_ (fun K hK => ?_)
              rotate_left 1
              · simp only [List.getElem?_toArray, List.getElem?_cons_zero, List.getElem?_cons_succ]; exact rfl
              · exact rfl
              go_big_quiet_op
              refine hK _ ?_
              clear hK K
              try simp only [Act.put, List.setIfInBounds_toArray, List.set_cons_zero, List.set_cons_succ]
            refine free_fork ?_ ?_
            · refine' free_step ?_ ?_ (fun K hK => ?_)
              rotate_left 1
              · simp only [List.getElem?_toArray, List.getElem?_cons_zero, List.getElem?_cons_succ]; exact rfl
              · exact rfl
              refine wp_load_nodeK _ rfl b off _ rfl H9d.out ?_
              refine hK _ _ ?_
              clear hK K
              try simp only [Act.put, List.setIfInBounds_toArray, List.set_cons_zero, List.set_cons_succ]
              refine' free_sole ?_ ?_ (fun K hK => ?_)
              rotate_left 1
              · simp only [List.getElem?_toArray, List.getElem?_cons_zero, List.getElem?_cons_succ]; exact rfl
              · exact rfl
              unfold Oper.wp execOp
              go_simp
              refine hK _ _ ?_
              clear hK K
              refine' free_sole ?_ ?_ (fun K hK => ?_)
              rotate_left 1
              · simp only [List.getElem?_toArray, List.getElem?_cons_zero, List.getElem?_cons_succ]; exact rfl
              · exact rfl
              go_simp
              refine (Hrep.out).mono ?_
              rintro e w2 ⟨c2, rfl, hy, hv', hb'⟩
              refine hK _ _ ?_
              obtain ⟨k2, s2, n2, a2, len2, cap2, rfl⟩ := hy.lit
              have H2 := Lib.hid (And.intro hy (And.intro hv' hb'))
              have Hr2 := Lib.hid (core_but hb' (core_later Hd.out H1.out.2.2.2) (by have := Hlt.out; omega))
              clear hy hv' hb'
              clear hK K
              try simp only [Act.put, List.setIfInBounds_toArray, List.set_cons_zero, List.set_cons_succ]
              refine' free_sole ?_ ?_ (fun K hK => ?_)
              rotate_left 1
              · simp only [List.getElem?_toArray, List.getElem?_cons_zero, List.getElem?_cons_succ]; exact rfl
              · exact rfl
              refine wp_store_core _ _ rfl (w.heap.size + 1) _ #[.int .i64 k2, .int .u64 (word s2 0), .int .u64 (word s2 1), .int .u64 (word s2 2), .int .u64 (word s2 3), .int .i64 n2, .slice a2 len2 cap2] rfl rfl Hr2.out rfl rfl (by simp [Value.oneCell']) ?_
              intro w5 hs5 ho5
              refine hK _ _ ?_
              have H5 := Lib.hid (And.intro hs5 ho5)
              clear hs5 ho5
              clear hK K
              try simp only [Act.put]
              refine free_done ?_
              go_wp2_with fail
              refine bodyPost_ret (v := .agg #[.int .i64 k2, .int .u64 (word s2 0), .int .u64 (word s2 1), .int .u64 (word s2 2), .int .u64 (word s2 3), .int .i64 n2, .slice a2 len2 cap2]) (results_core rfl _ _ (w.heap.size + 1) _ rfl H5.out.1 rfl) rfl ?_
              exact node_end (x := (repM (Nd.mkC y) lo hi sz).1) (sz := (repM (Nd.mkC y) lo hi sz).2) (W1 := W1) H1.out.1 H1.out.2.1 Hlt.out (H2.out.1.mono (Nat.le_refl _) fun k hk _ => ⟨fromB_le hk Hd.out.size, rfl⟩) H2.out.2.1 ((But.of_below Hd.out).trans H2.out.2.2) H5.out.2
            · refine' free_step ?_ ?_ (fun K hK => ?_)
              rotate_left 1
              · simp only [List.getElem?_toArray, List.getElem?_cons_zero, List.getElem?_cons_succ]; exact rfl
              · exact rfl
              unfold Oper.wp execOp
              go_simp
              refine hK _ _ ?_
              clear hK K
              refine' free_sole ?_ ?_ (fun K hK => ?_)
              rotate_left 1
              · simp only [List.getElem?_toArray, List.getElem?_cons_zero, List.getElem?_cons_succ]; exact rfl
              · exact rfl
              refine wp_load_nodeK _ rfl b off _ rfl H9d.out ?_
              refine hK _ _ ?_
              clear hK K
              try simp only [Act.put, List.setIfInBounds_toArray, List.set_cons_zero, List.set_cons_succ]
              refine' free_sole ?_ ?_ (fun K hK => ?_)
              rotate_left 1
              · simp only [List.getElem?_toArray, List.getElem?_cons_zero, List.getElem?_cons_succ]; exact rfl
              · exact rfl
              go_simp
              refine (Hrep.out).mono ?_
              rintro e w2 ⟨c2, rfl, hy, hv', hb'⟩
              refine hK _ _ ?_
              obtain ⟨k2, s2, n2, a2, len2, cap2, rfl⟩ := hy.lit
              have H2 := Lib.hid (And.intro hy (And.intro hv' hb'))
              have Hr2 := Lib.hid (core_but hb' (core_later Hd.out H1.out.2.2.2) (by have := Hlt.out; omega))
              clear hy hv' hb'
              clear hK K
              try simp only [Act.put, List.setIfInBounds_toArray, List.set_cons_zero, List.set_cons_succ]
              refine' free_sole ?_ ?_ (fun K hK => ?_)
              rotate_left 1
              · simp only [List.getElem?_toArray, List.getElem?_cons_zero, List.getElem?_cons_succ]; exact rfl
              · exact rfl
              refine wp_store_core _ _ rfl (w.heap.size + 1) _ #[.int .i64 k2, .int .u64 (word s2 0), .int .u64 (word s2 1), .int .u64 (word s2 2), .int .u64 (word s2 3), .int .i64 n2, .slice a2 len2 cap2] rfl rfl Hr2.out rfl rfl (by simp [Value.oneCell']) ?_
              intro w5 hs5 ho5
              refine hK _ _ ?_
              have H5 := Lib.hid (And.intro hs5 ho5)
              clear hs5 ho5
              clear hK K
              try simp only [Act.put]
              refine free_done ?_
              go_wp2_with fail
              refine bodyPost_ret (v := .agg #[.int .i64 k2, .int .u64 (word s2 0), .int .u64 (word s2 1), .int .u64 (word s2 2), .int .u64 (word s2 3), .int .i64 n2, .slice a2 len2 cap2]) (results_core rfl _ _ (w.heap.size + 1) _ rfl H5.out.1 rfl) rfl ?_
              exact node_end (x := (repM (Nd.mkC y) lo hi sz).1) (sz := (repM (Nd.mkC y) lo hi sz).2) (W1 := W1) H1.out.1 H1.out.2.1 Hlt.out (H2.out.1.mono (Nat.le_refl _) fun k hk _ => ⟨fromB_le hk Hd.out.size, rfl⟩) H2.out.2.1 ((But.of_below Hd.out).trans H2.out.2.2) H5.out.2
          · refine' free_step ?_ ?_ (fun K hK => ?_)
            rotate_left 1
            · simp only [List.getElem?_toArray, List.getElem?_cons_zero, List.getElem?_cons_succ]; exact rfl
            · exact rfl
            unfold Oper.wp execOp
            go_simp
            refine hK _ _ ?_
            clear hK K
            refine' free_sole ?_ ?_ (fun K hK => ?_)
            rotate_left 1
            · simp only [List.getElem?_toArray, List.getElem?_cons_zero, List.getElem?_cons_succ]; exact rfl
            · exact rfl
            unfold Oper.wp execOp
            go_simp
            refine hK _ _ ?_
            clear hK K
            iterate 1
              refine' free_plain ?_ ?_ (fun K hK => ?_)
              rotate_left 1
              · simp only [List.getElem?_toArray, List.getElem?_cons_zero, List.getElem?_cons_succ]; exact rfl
              · exact rfl
              go_big_quiet_op
              refine hK _ ?_
              clear hK K
              try simp only [Act.put, List.setIfInBounds_toArray, List.set_cons_zero, List.set_cons_succ]
            refine' free_sole ?_ ?_ (fun K hK => ?_)
            rotate_left 1
            · simp only [List.getElem?_toArray, List.getElem?_cons_zero, List.getElem?_cons_succ]; exact rfl
            · exact rfl
            refine wp_load_nodeK _ rfl b off _ rfl H9d.out ?_
            refine hK _ _ ?_
            clear hK K
            try simp only [Act.put, List.setIfInBounds_toArray, List.set_cons_zero, List.set_cons_succ]
            refine' free_sole ?_ ?_ (fun K hK => ?_)
            rotate_left 1
            · simp only [List.getElem?_toArray, List.getElem?_cons_zero, List.getElem?_cons_succ]; exact rfl
            · exact rfl
            go_simp
            refine (Hrep.out).mono ?_
            rintro e w2 ⟨c2, rfl, hy, hv', hb'⟩
            refine hK _ _ ?_
            obtain ⟨k2, s2, n2, a2, len2, cap2, rfl⟩ := hy.lit
            have H2 := Lib.hid (And.intro hy (And.intro hv' hb'))
            have Hr2 := Lib.hid (core_but hb' (core_later Hd.out H1.out.2.2.2) (by have := Hlt.out; omega))
            clear hy hv' hb'
            clear hK K
            try simp only [Act.put, List.setIfInBounds_toArray, List.set_cons_zero, List.set_cons_succ]
            refine' free_sole ?_ ?_ (fun K hK => ?_)
            rotate_left 1
            · simp only [List.getElem?_toArray, List.getElem?_cons_zero, List.getElem?_cons_succ]; exact rfl
            · exact rfl
            refine wp_store_core _ _ rfl (w.heap.size + 1) _ #[.int .i64 k2, .int .u64 (word s2 0), .int .u64 (word s2 1), .int .u64 (word s2 2), .int .u64 (word s2 3), .int .i64 n2, .slice a2 len2 cap2] rfl rfl Hr2.out rfl rfl (by simp [Value.oneCell']) ?_
            intro w5 hs5 ho5
            refine hK _ _ ?_
            have H5 := Lib.hid (And.intro hs5 ho5)
            clear hs5 ho5
            clear hK K
            try simp only [Act.put]
            refine free_done ?_
            go_wp2_with fail
            refine bodyPost_ret (v := .agg #[.int .i64 k2, .int .u64 (word s2 0), .int .u64 (word s2 1), .int .u64 (word s2 2), .int .u64 (word s2 3), .int .i64 n2, .slice a2 len2 cap2]) (results_core rfl _ _ (w.heap.size + 1) _ rfl H5.out.1 rfl) rfl ?_
            exact node_end (x := (repM (Nd.mkC y) lo hi sz).1) (sz := (repM (Nd.mkC y) lo hi sz).2) (W1 := W1) H1.out.1 H1.out.2.1 Hlt.out (H2.out.1.mono (Nat.le_refl _) fun k hk _ => ⟨fromB_le hk Hd.out.size, rfl⟩) H2.out.2.1 ((But.of_below Hd.out).trans H2.out.2.2) H5.out.2
      · rw [mkC_mk, if_neg h0, if_neg (show ¬ (5 : Int) = 1 by decide), if_neg (show ¬ (5 : Int) = 2 by decide), if_neg (show ¬ (5 : Int) = 3 by decide), if_neg (show ¬ (5 : Int) = 4 by decide), if_pos rfl, e2]
        obtain ⟨W1, hW1⟩ : ∃ W1, W1 = (w.alloc (.cells #[.int .i64 5, .int .u64 (word s 0), .int .u64 (word s 1), .int .u64 (word s 2), .int .u64 (word s 3), .int .i64 lo, .int .i64 hi, .int .i64 n, .slice a 1 cap] 39)).alloc (.cells #[.int .i64 0, .int .u64 0, .int .u64 0, .int .u64 0, .int .u64 0, .int .i64 0, .slice none 0 0] 30) := ⟨_, rfl⟩
        obtain ⟨hal, hs1, hbx, hres⟩ := boxed_core w _ _ hW1
        have hv1 := hv.below hal hv.lt
        have hfull := full_walk hv1
        rw [show decide (2000 < sz) = false from by simp; omega] at hfull
        have hb1 := hb.trans (hal.mono hb.size)
        obtain ⟨c0, c5, c6, c7, c8⟩ := node_cells hbx
        have H4 := Lib.hid (node_set4 hbx)
        have Hfull := Lib.hid hfull
        have Hlt := Lib.hid hv.lt
        have Hv1 := Lib.hid (And.intro hv1 (And.intro hb1 hbx))
        have H1 := Lib.hid (And.intro hal (And.intro hs1 (And.intro hbx hres)))
        have hcb : ∃ b off cs0, a = some ⟨b, off, none⟩ ∧ 1 ≤ cap ∧ Node9 W1 b off cs0 ∧ Nd.at W0 y cs0 ∧ (∀ W, Below W0.heap.size W0 W → Node9 W b off cs0) := by
          rcases hl with h | ⟨b, off, e, h1, h2, h3⟩
          · simp at h
          · obtain ⟨cs0, g1, g2, g3⟩ := Go.Proofs.YtlgpbgcheeaalaaGreatDoor.nodes_get W0 b [y] off h3 0 (by simp)
            have hall : ∀ W, Below W0.heap.size W0 W → Node9 W b off cs0 := fun W hW => ⟨g1, fun q hq => by have h := g2 q hq; rw [Nat.zero_mul, Nat.add_zero] at h; rw [hW.cell (p := ⟨b, off + q, none⟩) h2]; exact h⟩
            exact ⟨b, off, cs0, e, h1, hall W1 hb1, g3, hall⟩
        obtain ⟨b, off, cs0, rfl, hcap, h9, hy0, h9all⟩ := hcb
        have hnode := hkids y (by simp) cs0 hy0
        obtain ⟨kc, sc, loc, hic, nc, ac, lenc, capc, rfl⟩ := Nd.lit hy0
        have H9 := Lib.hid h9
        have H9all := Lib.hid h9all
        have Hnode := Lib.hid hnode
        clear h9 hnode hy0 h9all
        have hcn := Hnode.out W1 sz hb1 hv1 hsz
        have Hcn := Lib.hid hcn
        have hsc : (Nd.mkC y sz).2 ≤ 100000000 := by have := hS y (by simp) sz; omega
        clear hcn h0 hm hS hlen
        clear hal hs1 hbx hres hv1 hfull hb1 hv hb hkids hl
        go_enter Tryz.func37, Tryz.ntmps37
        go_upto_region 1 with fail
        rw [← hW1]
        clear hW1
        go_wp2_with (first
          | (go_at_call 38; refine Hfull.out.mono ?_; rintro e wf ⟨rfl, hwf⟩; subst wf)
          | (refine wpList_load_node rfl _ rfl b off _ rfl H9.out ?_)
          | (go_at_call 37; refine Hcn.out.mono ?_; rintro e w2 ⟨c2, rfl, hy, hv', hb'⟩; obtain ⟨k2, s2, n2, a2, len2, cap2, rfl⟩ := hy.lit; have H2 := Lib.hid (And.intro hy (And.intro hv' hb')); have Hr2 := Lib.hid (res_but H1.out.2.1 Hlt.out H1.out.2.2.2 hb'); clear hy hv' hb')
          | (go_at_call 65; refine (one_part (q := fromB W1.heap.size) (k := 6) H2.out.1 H2.out.2.1 (fromB_no (by have := Hlt.out; have := H1.out.2.1; omega)) (fromB_yes H2.out.2.2.size) rfl (by omega)).mono ?_; rintro e w3 ⟨c3, rfl, hy, hv', hb'⟩; obtain ⟨a3, cap3, rfl⟩ := hy.named; have H3 := Lib.hid (And.intro hy (And.intro hv' ((H2.out.2.2.trans (But.of_below (alloc_below w2 _))).trans hb'))); clear hy hv' hb')
          | (refine wpList_store_core rfl _ _ rfl w3.heap.size #[.int .i64 0, .int .u64 0, .int .u64 0, .int .u64 0, .int .u64 0, .int .i64 0, .slice none 0 0] #[.int .i64 6, .int .u64 (word 0 0), .int .u64 (word 0 1), .int .u64 (word 0 2), .int .u64 (word 0 3), .int .i64 0, .slice a3 1 cap3] rfl rfl (World.alloc_heap_new w3 _) rfl rfl (by simp [Value.oneCell']) ?_; intro w4 hs4 ho4; have Hst := Lib.hid (OptSt.first H1.out.1 H1.out.2.1 H1.out.2.2.2 Hlt.out H3.out.1 H3.out.2.1 H3.out.2.2 hs4 ho4); have c74 : w4.cell? ⟨w.heap.size, 7, none⟩ = some (.int .i64 n) := (node_cells ((ho4.block _ (by have := H3.out.2.2.size; have := H1.out.2.1; omega)).trans (((alloc_below w3 _).block _ (by have := H3.out.2.2.size; have := H1.out.2.1; omega)).trans ((H3.out.2.2.block _ (by have := H1.out.2.1; omega) (by have := Hlt.out; omega)).trans H1.out.2.2.1)))).2.2.2.1; clear hs4 ho4)
          | (refine wpList_store_int rfl _ _ rfl w3.heap.size 5 n rfl rfl 30 _ #[.int .i64 6, .int .u64 (word 0 0), .int .u64 (word 0 1), .int .u64 (word 0 2), .int .u64 (word 0 3), .int .i64 n, .slice a3 1 cap3] Hst.out.2.2.2.2.1 (by simp) rfl ?_; intro w6 hs6 ho6; have Hst6 := Lib.hid (Hst.out.put (ds := [.int .i64 6, .int .u64 (word 0 0), .int .u64 (word 0 1), .int .u64 (word 0 2), .int .u64 (word 0 3), .int .i64 n, .slice a3 1 cap3]) Hlt.out (Hst.out.1.renew (s' := 0) (n' := n) hfn) hs6 ho6); clear hs6 ho6; have H7 := Lib.hid (core7_in (cs := [.int .i64 6, .int .u64 (word 0 0), .int .u64 (word 0 1), .int .u64 (word 0 2), .int .u64 (word 0 3), .int .i64 n, .slice a3 1 cap3]) Hst6.out.2.2.2.2.1 rfl))
          | (refine wpList_load_core rfl _ rfl w3.heap.size 0 _ rfl H7.out ?_)
          | (refine wpList_store_core rfl _ _ rfl (w.heap.size + 1) _ #[.int .i64 6, .int .u64 (word 0 0), .int .u64 (word 0 1), .int .u64 (word 0 2), .int .u64 (word 0 3), .int .i64 n, .slice a3 1 cap3] rfl rfl Hst6.out.2.2.2.1 rfl rfl (by simp [Value.oneCell']) ?_; intro w5 hs5 ho5; have H5 := Lib.hid (And.intro hs5 ho5); clear hs5 ho5)
          | fail)
        refine bodyPost_ret (v := .agg #[.int .i64 6, .int .u64 (word 0 0), .int .u64 (word 0 1), .int .u64 (word 0 2), .int .u64 (word 0 3), .int .i64 n, .slice a3 1 cap3]) (results_core rfl _ _ (w.heap.size + 1) _ rfl H5.out.1 rfl) rfl ?_
        exact Hst6.out.fin Hlt.out Hst6.out.1 H5.out.2
      · rw [mkC_mk, if_neg h0, if_neg (show ¬ (6 : Int) = 1 by decide), if_neg (show ¬ (6 : Int) = 2 by decide), if_neg (show ¬ (6 : Int) = 3 by decide), if_neg (show ¬ (6 : Int) = 4 by decide), if_neg (show ¬ (6 : Int) = 5 by decide), e2]
        obtain ⟨W1, hW1⟩ : ∃ W1, W1 = (w.alloc (.cells #[.int .i64 6, .int .u64 (word s 0), .int .u64 (word s 1), .int .u64 (word s 2), .int .u64 (word s 3), .int .i64 lo, .int .i64 hi, .int .i64 n, .slice a 1 cap] 39)).alloc (.cells #[.int .i64 0, .int .u64 0, .int .u64 0, .int .u64 0, .int .u64 0, .int .i64 0, .slice none 0 0] 30) := ⟨_, rfl⟩
        obtain ⟨hal, hs1, hbx, hres⟩ := boxed_core w _ _ hW1
        have hv1 := hv.below hal hv.lt
        have hfull := full_walk hv1
        rw [show decide (2000 < sz) = false from by simp; omega] at hfull
        have hb1 := hb.trans (hal.mono hb.size)
        obtain ⟨c0, c5, c6, c7, c8⟩ := node_cells hbx
        have H4 := Lib.hid (node_set4 hbx)
        have Hfull := Lib.hid hfull
        have Hlt := Lib.hid hv.lt
        have Hv1 := Lib.hid (And.intro hv1 (And.intro hb1 hbx))
        have H1 := Lib.hid (And.intro hal (And.intro hs1 (And.intro hbx hres)))
        have hcb : ∃ b off cs0, a = some ⟨b, off, none⟩ ∧ 1 ≤ cap ∧ Node9 W1 b off cs0 ∧ Nd.at W0 y cs0 ∧ (∀ W, Below W0.heap.size W0 W → Node9 W b off cs0) := by
          rcases hl with h | ⟨b, off, e, h1, h2, h3⟩
          · simp at h
          · obtain ⟨cs0, g1, g2, g3⟩ := Go.Proofs.YtlgpbgcheeaalaaGreatDoor.nodes_get W0 b [y] off h3 0 (by simp)
            have hall : ∀ W, Below W0.heap.size W0 W → Node9 W b off cs0 := fun W hW => ⟨g1, fun q hq => by have h := g2 q hq; rw [Nat.zero_mul, Nat.add_zero] at h; rw [hW.cell (p := ⟨b, off + q, none⟩) h2]; exact h⟩
            exact ⟨b, off, cs0, e, h1, hall W1 hb1, g3, hall⟩
        obtain ⟨b, off, cs0, rfl, hcap, h9, hy0, h9all⟩ := hcb
        have hnode := hkids y (by simp) cs0 hy0
        obtain ⟨kc, sc, loc, hic, nc, ac, lenc, capc, rfl⟩ := Nd.lit hy0
        have H9 := Lib.hid h9
        have H9all := Lib.hid h9all
        have Hnode := Lib.hid hnode
        clear h9 hnode hy0 h9all
        have hcn := Hnode.out W1 sz hb1 hv1 hsz
        have Hcn := Lib.hid hcn
        clear hcn h0 hm hS hlen
        clear hal hs1 hbx hres hv1 hfull hb1 hv hb hkids hl
        go_enter Tryz.func37, Tryz.ntmps37
        go_upto_region 1 with fail
        rw [← hW1]
        clear hW1
        go_wp2_with (first
          | (go_at_call 38; refine Hfull.out.mono ?_; rintro e wf ⟨rfl, hwf⟩; subst wf)
          | (refine wpList_load_node rfl _ rfl b off _ rfl H9.out ?_)
          | (go_at_call 37; refine Hcn.out.mono ?_; rintro e w2 ⟨c2, rfl, hy, hv', hb'⟩; obtain ⟨k2, s2, n2, a2, len2, cap2, rfl⟩ := hy.lit; have H2 := Lib.hid (And.intro hy (And.intro hv' hb')); have Hr2 := Lib.hid (res_but H1.out.2.1 Hlt.out H1.out.2.2.2 hb'); clear hy hv' hb')
          | (refine wpList_store_core rfl _ _ rfl (w.heap.size + 1) _ #[.int .i64 k2, .int .u64 (word s2 0), .int .u64 (word s2 1), .int .u64 (word s2 2), .int .u64 (word s2 3), .int .i64 n2, .slice a2 len2 cap2] rfl rfl Hr2.out rfl rfl (by simp [Value.oneCell']) ?_; intro w5 hs5 ho5; have H5 := Lib.hid (And.intro hs5 ho5); clear hs5 ho5)
          | fail)
        refine bodyPost_ret (v := .agg #[.int .i64 k2, .int .u64 (word s2 0), .int .u64 (word s2 1), .int .u64 (word s2 2), .int .u64 (word s2 3), .int .i64 n2, .slice a2 len2 cap2]) (results_core rfl _ _ (w.heap.size + 1) _ rfl H5.out.1 rfl) rfl ?_
        exact node_end H1.out.1 H1.out.2.1 Hlt.out H2.out.1 H2.out.2.1 H2.out.2.2 H5.out.2
end K
end Go.Proofs.YtlgpbgcheeaalaaGreatDoor
/-! core.Of, walked. -/
namespace Go.Proofs.YtlgpbgcheeaalaaGreatDoor
namespace K
set_option maxRecDepth 100000
open Go.RowKit
theorem node_any {W0 : World} {R : Nat} (hR : W0.heap.size ≤ R) : ∀ (c : Nat) (x : Nd) (next m : Nat), x.count ≤ c → c ≤ 2000 → x.form next = some m → ∀ cs, Nd.at W0 x cs → NodeOk W0 R cs (Nd.mkC x)
  | 0, x, _, _, hc, _, _, _, _ => by have := x.count_pos; omega
  | c + 1, .mk k s lo hi n l, next, m, hc, h2k, hf, cs, hat => by
    rw [Go.Proofs.YtlgpbgcheeaalaaGreatDoor.at_mk] at hat
    obtain ⟨_, _, _, hfn, a, cap, rfl, _, hl⟩ := hat
    have hcnt : ∀ y ∈ l, y.count ≤ c := fun y hy => by have := Go.Proofs.YtlgpbgcheeaalaaGreatDoor.count_mem (x := Nd.mk k s lo hi n l) (y := y) hy; omega
    have hll : l.length ≤ 2000 := by
      have := length_counts l
      rw [Go.Proofs.YtlgpbgcheeaalaaGreatDoor.count_mk] at hc; omega
    have hform : ∀ y ∈ l, ∃ n1 m1, y.form n1 = some m1 := fun y hy => by
      rcases form_cases hf with ⟨_, rfl⟩ | ⟨_, _, hfs⟩ | ⟨z, rfl, _, n1, m1, hz⟩
      · simp at hy
      · exact forms_each hfs y hy
      · rw [List.mem_singleton] at hy; subst hy; exact ⟨n1, m1, hz⟩
    refine node_step hR (D := 3000 * c) (by omega) hl hfn (fun y hy cs' h => by
      obtain ⟨n1, m1, hy1⟩ := hform y hy
      exact node_any hR c y n1 m1 (hcnt y hy) (by omega) hy1 cs' h) (fun y hy => by
      obtain ⟨n1, m1, hy1⟩ := hform y hy
      exact mk_small c y n1 m1 (hcnt y hy) (by omega) hy1) hll ?_
    rcases form_cases hf with h | ⟨h1, h2, _⟩ | ⟨z, h1, h2, _⟩
    · exact .inl h
    · exact .inr (.inl ⟨h1, h2⟩)
    · exact .inr (.inr ⟨z, h1, h2⟩)
mutual
def Nd.grp : Nd → Nat
  | .mk k _ _ _ _ l => (if k = 5 then 1 else 0) + grps l
def grps : List Nd → Nat
  | [] => 0
  | x :: l => Nd.grp x + grps l
end
theorem grp_mk (k : Int) (s : BitVec 256) (lo hi n : Int) (l : List Nd) : Nd.grp (.mk k s lo hi n l) = (if k = 5 then 1 else 0) + grps l := by rw [Nd.grp]
theorem grps_cons (x : Nd) (l : List Nd) : grps (x :: l) = Nd.grp x + grps l := by rw [grps]
theorem grps_nil : grps [] = 0 := by rw [grps]
theorem grps_snoc (x : Nd) : ∀ l : List Nd, grps (l ++ [x]) = grps l + Nd.grp x
  | [] => by rw [List.nil_append, grps_cons, grps_nil]; omega
  | y :: l => by rw [List.cons_append, grps_cons, grps_snoc x l, grps_cons]; omega
mutual
theorem grp_form : ∀ (x : Nd) (next m : Nat), x.form next = some m → m = next + Nd.grp x
  | .mk k s lo hi n l, next, m, h => by
    rw [Go.Proofs.YtlgpbgcheeaalaaGreatDoor.form_mk] at h
    split at h
    · have := grps_form k l _ m h
      rw [grp_mk, this]
      split <;> omega
    · cases h
theorem grps_form (k : Int) : ∀ (l : List Nd) (next m : Nat), Go.Proofs.YtlgpbgcheeaalaaGreatDoor.forms k l next = some m → m = next + grps l
  | [], next, m, h => by
    rw [Go.Proofs.YtlgpbgcheeaalaaGreatDoor.forms_nil] at h
    injection h with h
    rw [grps_nil, h]; rfl
  | x :: l, next, m, h => by
    rw [Go.Proofs.YtlgpbgcheeaalaaGreatDoor.forms_cons] at h
    split at h
    · cases hx : x.form next with
      | none => rw [hx] at h; cases h
      | some m1 =>
        rw [hx] at h
        have h1 := grp_form x next m1 hx
        have h2 := grps_form k l m1 m h
        rw [grps_cons]; omega
    · cases h
end
mutual
theorem grp_count : ∀ x : Nd, Nd.grp x ≤ x.count
  | .mk k s lo hi n l => by
    rw [grp_mk, Go.Proofs.YtlgpbgcheeaalaaGreatDoor.count_mk]
    have := grps_counts l
    split <;> omega
theorem grps_counts : ∀ l : List Nd, grps l ≤ Go.Proofs.YtlgpbgcheeaalaaGreatDoor.counts l
  | [] => by rw [grps_nil]; omega
  | x :: l => by
    rw [grps_cons, Go.Proofs.YtlgpbgcheeaalaaGreatDoor.counts]
    have := grp_count x
    have := grps_counts l
    omega
end
def validN (x : Nd) : Bool := decide (x.count ≤ 2000) && goodP x (Nd.grp x : Int)
theorem good_grp {x : Nd} {g : Int} (h : goodP x g = true) : g = (Nd.grp x : Int) ∧ ∃ m, x.form 1 = some m := by
  unfold goodP at h
  simp only [Bool.and_eq_true] at h
  have h3 := h.2
  cases hf : x.form 1 with
  | none => rw [hf] at h3; cases h3
  | some m =>
    rw [hf] at h3
    simp at h3
    have := grp_form x 1 m hf
    exact ⟨by omega, m, rfl⟩
theorem good_valid {x : Nd} {g : Int} (h : goodP x g = true) : validN x = true := by
  unfold validN
  rw [← (good_grp h).1, h, decide_eq_true (good_size h).1]; rfl
def ofC (x : Nd) : Cr × Int := if validN x then (if (Nd.core x).count ≤ 2000 then (Nd.core x, 0) else (zeroC, 4)) else (zeroC, 1)
set_option maxHeartbeats 4000000 in
theorem groups_any : ∀ (m : Nat) (x : Nd) (cs : List Value) (w : World), x.count ≤ m → m ≤ 100000 → Nd.at w x cs →
    Calls Tryz.prog 64 #[.agg cs.toArray] w fun e w' => e = .returned (.int .i64 (Nd.grp x : Int)) ∧ Below w.heap.size w w'
  | 0, x, _, _, hm, _, _ => by have := x.count_pos; omega
  | m + 1, .mk k s lo hi n l, cs, w, hm, hm2, hat => by
    rw [Go.Proofs.YtlgpbgcheeaalaaGreatDoor.at_mk] at hat
    obtain ⟨_, _, _, _, a, cap, rfl, hmax, hl⟩ := hat
    have ih := groups_any m
    have hcnt : Go.Proofs.YtlgpbgcheeaalaaGreatDoor.counts l ≤ m := by rw [Go.Proofs.YtlgpbgcheeaalaaGreatDoor.count_mk] at hm; omega
    have hgc := grps_counts l
    obtain ⟨G, hG⟩ : ∃ G, G = Nd.grp (.mk k s lo hi n l) := ⟨_, rfl⟩
    obtain ⟨c, hc⟩ : ∃ c : Nat, c = if k = 5 then 1 else 0 := ⟨_, rfl⟩
    have hGc : G = c + grps l := by rw [hG, grp_mk, hc]
    have hcs : c = 0 ∨ c = 1 := by rw [hc]; split <;> simp
    rw [← hG]
    have hk : (k == 5) = decide (c = 1) := by
      rw [Bool.eq_iff_iff, hc]
      by_cases h : k = 5 <;> simp [h]
    have HG := Lib.hid (And.intro hGc (And.intro hgc hcnt))
    have Hih := Lib.hid ih
    have Hm := Lib.hid hm2
    clear ih hG hGc hgc hcnt hm hm2 hc
    have hlen : l.length ≤ 100000 := by have := length_counts l; have := HG.out.2.2; have := Hm.out; omega
    obtain ⟨ln, hln⟩ : ∃ ln, ln = l.length := ⟨_, rfl⟩
    rw [← hln] at hl hlen hmax ⊢
    have Hln := Lib.hid hln
    clear hln
    rcases hcs with rfl | rfl
    · rw [show decide ((0 : Nat) = 1) = false from rfl] at hk
      go_enter Tryz.func64, Tryz.ntmps64
      go_wp2_with fail
      go_loopw [3, 12] (fun v i wr => ∃ j : Nat, i = .int .i64 (j : Int) ∧ v = .int .i64 ((0 + grps (l.take j) : Nat) : Int) ∧ j ≤ ln ∧ Hid (Below w.heap.size w wr)) (fun _ i _ => ln - (intOf i).toNat)
      case atStart =>
        refine ⟨0, rfl, ?_, Nat.zero_le _, alloc_below w _⟩
        rw [List.take_zero, grps_nil]; rfl
      case round =>
        obtain ⟨j, rfl, rfl, hj, hb⟩ := hrel
        by_cases hjn : j < ln
        · have hd : decide ((j : Int) < ln) = true := by simp; omega
          have hd2 : decide (j < ln) = true := decide_eq_true hjn
          have hjl : j < l.length := by have := Hln.out; omega
          rcases hl with hl0 | ⟨b, off, hba, hcap, hbw, hnodes⟩
          · omega
          · subst hba
            obtain ⟨cs, hcs, hcell, hchild⟩ := Go.Proofs.YtlgpbgcheeaalaaGreatDoor.nodes_get w b l off hnodes j hjl
            have hcall : ∀ w' : World, Below w.heap.size w w' → Calls Tryz.prog 64 #[.agg cs.toArray] w' fun e w'' => e = .returned (.int .i64 (Nd.grp l[j] : Int)) ∧ Below w'.heap.size w' w'' := fun w' hb' =>
              Hih.out l[j] cs w' (by have := Go.Proofs.YtlgpbgcheeaalaaGreatDoor.counts_mem (List.getElem_mem hjl); have := HG.out.2.2; omega) (by have := Hm.out; omega) (Nd.at_below hb' (Nat.le_refl _) _ _ hchild)
            obtain ⟨kc, sc, loc, hic, nc, ac, lenc, capc, rfl⟩ := Nd.lit hchild
            have h9 : Node9 wr b (off + j * 9) [.int .i64 kc, .int .u64 (word sc 0), .int .u64 (word sc 1), .int .u64 (word sc 2), .int .u64 (word sc 3), .int .i64 loc, .int .i64 hic, .int .i64 nc, .slice ac lenc capc] := ⟨hcs, fun q hq => by rw [hb.out.cell (p := ⟨b, off + j * 9 + q, none⟩) hbw]; exact hcell q hq⟩
            have hstep : grps (l.take (j + 1)) = grps (l.take j) + Nd.grp l[j] := by rw [List.take_succ_eq_append_getElem hjl, grps_snoc]
            have hsum : grps (l.take j) + Nd.grp l[j] ≤ 100000 := by
              rw [← hstep]
              have h1 : grps l = grps (l.take (j + 1)) + grps (l.drop (j + 1)) := by
                have : ∀ (A B : List Nd), grps (A ++ B) = grps A + grps B := fun A B => by
                  induction A with
                  | nil => rw [List.nil_append, grps_nil]; omega
                  | cons y A ih => rw [List.cons_append, grps_cons, ih, grps_cons]; omega
                rw [← this, List.take_append_drop]
              have := HG.out.2.1; have := HG.out.2.2; have := Hm.out
              omega
            have Hcall := Lib.hid hcall
            have H9 := Lib.hid h9
            have Hstep := Lib.hid hstep
            generalize grps (l.take j) = gj at hstep hsum Hstep ⊢
            generalize Nd.grp l[j] = gl at hstep hsum Hstep Hcall ⊢
            obtain ⟨A, hA⟩ : ∃ A : Int, A = ((0 + gj : Nat) : Int) := ⟨_, rfl⟩
            rw [← hA]
            have hA0 : 0 ≤ A := by omega
            have hA1 : A + (gl : Int) ≤ 100001 := by omega
            have HA := Lib.hid hA
            clear hcall h9 hstep hcell hchild hnodes hsum hA
            go_wp2_with (first
              | (refine wpList_load_node rfl _ rfl b (off + j * 9) _ rfl H9.out ?_)
              | (refine wpList_store_node rfl _ _ rfl wr.heap.size #[.int .i64 0, .int .u64 0, .int .u64 0, .int .u64 0, .int .u64 0, .int .i64 0, .int .i64 0, .int .i64 0, .slice none 0 0] #[.int .i64 kc, .int .u64 (word sc 0), .int .u64 (word sc 1), .int .u64 (word sc 2), .int .u64 (word sc 3), .int .i64 loc, .int .i64 hic, .int .i64 nc, .slice ac lenc capc] rfl rfl (World.alloc_heap_new wr _) rfl rfl (by simp [Value.oneCell']) ?_; intro w2 hs2 ho2; have Hb2 := Lib.hid (hb.out.trans ((ho2.below (alloc_below wr _) (Nat.le_refl _)).mono hb.out.size)); have H92 := Lib.hid (node9_in (cs := [.int .i64 kc, .int .u64 (word sc 0), .int .u64 (word sc 1), .int .u64 (word sc 2), .int .u64 (word sc 3), .int .i64 loc, .int .i64 hic, .int .i64 nc, .slice ac lenc capc]) hs2 rfl); clear hs2 ho2)
              | (refine wpList_load_node rfl _ rfl wr.heap.size 0 _ rfl H92.out ?_)
              | (go_at_call 64; refine (Hcall.out w2 Hb2.out).mono ?_; rintro e w3 ⟨rfl, hb3⟩; have Hb3 := Lib.hid (Hb2.out.trans (hb3.mono Hb2.out.size)); clear hb3)
              | fail)
            go_roundw
            case rel =>
              refine ⟨j + 1, by go_num, ?_, by omega, Hb3.out⟩
              rw [Hstep.out, HA.out]
              congr 1
              omega
            case measure => (simp [intOf] <;> omega)
        · obtain rfl : j = ln := by omega
          have hd : decide ((j : Int) < j) = false := by simp
          rw [List.take_of_length_le (by have := Hln.out; omega), ← HG.out.1]
          clear hl
          go_wp2_with fail
          go_ret
          exact ⟨rfl, hb.out⟩
    · rw [show decide ((1 : Nat) = 1) = true from rfl] at hk
      go_enter Tryz.func64, Tryz.ntmps64
      go_wp2_with fail
      go_loopw [3, 12] (fun v i wr => ∃ j : Nat, i = .int .i64 (j : Int) ∧ v = .int .i64 ((1 + grps (l.take j) : Nat) : Int) ∧ j ≤ ln ∧ Hid (Below w.heap.size w wr)) (fun _ i _ => ln - (intOf i).toNat)
      case atStart =>
        refine ⟨0, rfl, ?_, Nat.zero_le _, alloc_below w _⟩
        rw [List.take_zero, grps_nil]; rfl
      case round =>
        obtain ⟨j, rfl, rfl, hj, hb⟩ := hrel
        by_cases hjn : j < ln
        · have hd : decide ((j : Int) < ln) = true := by simp; omega
          have hd2 : decide (j < ln) = true := decide_eq_true hjn
          have hjl : j < l.length := by have := Hln.out; omega
          rcases hl with hl0 | ⟨b, off, hba, hcap, hbw, hnodes⟩
          · omega
          · subst hba
            obtain ⟨cs, hcs, hcell, hchild⟩ := Go.Proofs.YtlgpbgcheeaalaaGreatDoor.nodes_get w b l off hnodes j hjl
            have hcall : ∀ w' : World, Below w.heap.size w w' → Calls Tryz.prog 64 #[.agg cs.toArray] w' fun e w'' => e = .returned (.int .i64 (Nd.grp l[j] : Int)) ∧ Below w'.heap.size w' w'' := fun w' hb' =>
              Hih.out l[j] cs w' (by have := Go.Proofs.YtlgpbgcheeaalaaGreatDoor.counts_mem (List.getElem_mem hjl); have := HG.out.2.2; omega) (by have := Hm.out; omega) (Nd.at_below hb' (Nat.le_refl _) _ _ hchild)
            obtain ⟨kc, sc, loc, hic, nc, ac, lenc, capc, rfl⟩ := Nd.lit hchild
            have h9 : Node9 wr b (off + j * 9) [.int .i64 kc, .int .u64 (word sc 0), .int .u64 (word sc 1), .int .u64 (word sc 2), .int .u64 (word sc 3), .int .i64 loc, .int .i64 hic, .int .i64 nc, .slice ac lenc capc] := ⟨hcs, fun q hq => by rw [hb.out.cell (p := ⟨b, off + j * 9 + q, none⟩) hbw]; exact hcell q hq⟩
            have hstep : grps (l.take (j + 1)) = grps (l.take j) + Nd.grp l[j] := by rw [List.take_succ_eq_append_getElem hjl, grps_snoc]
            have hsum : grps (l.take j) + Nd.grp l[j] ≤ 100000 := by
              rw [← hstep]
              have h1 : grps l = grps (l.take (j + 1)) + grps (l.drop (j + 1)) := by
                have : ∀ (A B : List Nd), grps (A ++ B) = grps A + grps B := fun A B => by
                  induction A with
                  | nil => rw [List.nil_append, grps_nil]; omega
                  | cons y A ih => rw [List.cons_append, grps_cons, ih, grps_cons]; omega
                rw [← this, List.take_append_drop]
              have := HG.out.2.1; have := HG.out.2.2; have := Hm.out
              omega
            have Hcall := Lib.hid hcall
            have H9 := Lib.hid h9
            have Hstep := Lib.hid hstep
            generalize grps (l.take j) = gj at hstep hsum Hstep ⊢
            generalize Nd.grp l[j] = gl at hstep hsum Hstep Hcall ⊢
            obtain ⟨A, hA⟩ : ∃ A : Int, A = ((1 + gj : Nat) : Int) := ⟨_, rfl⟩
            rw [← hA]
            have hA0 : 0 ≤ A := by omega
            have hA1 : A + (gl : Int) ≤ 100001 := by omega
            have HA := Lib.hid hA
            clear hcall h9 hstep hcell hchild hnodes hsum hA
            go_wp2_with (first
              | (refine wpList_load_node rfl _ rfl b (off + j * 9) _ rfl H9.out ?_)
              | (refine wpList_store_node rfl _ _ rfl wr.heap.size #[.int .i64 0, .int .u64 0, .int .u64 0, .int .u64 0, .int .u64 0, .int .i64 0, .int .i64 0, .int .i64 0, .slice none 0 0] #[.int .i64 kc, .int .u64 (word sc 0), .int .u64 (word sc 1), .int .u64 (word sc 2), .int .u64 (word sc 3), .int .i64 loc, .int .i64 hic, .int .i64 nc, .slice ac lenc capc] rfl rfl (World.alloc_heap_new wr _) rfl rfl (by simp [Value.oneCell']) ?_; intro w2 hs2 ho2; have Hb2 := Lib.hid (hb.out.trans ((ho2.below (alloc_below wr _) (Nat.le_refl _)).mono hb.out.size)); have H92 := Lib.hid (node9_in (cs := [.int .i64 kc, .int .u64 (word sc 0), .int .u64 (word sc 1), .int .u64 (word sc 2), .int .u64 (word sc 3), .int .i64 loc, .int .i64 hic, .int .i64 nc, .slice ac lenc capc]) hs2 rfl); clear hs2 ho2)
              | (refine wpList_load_node rfl _ rfl wr.heap.size 0 _ rfl H92.out ?_)
              | (go_at_call 64; refine (Hcall.out w2 Hb2.out).mono ?_; rintro e w3 ⟨rfl, hb3⟩; have Hb3 := Lib.hid (Hb2.out.trans (hb3.mono Hb2.out.size)); clear hb3)
              | fail)
            go_roundw
            case rel =>
              refine ⟨j + 1, by go_num, ?_, by omega, Hb3.out⟩
              rw [Hstep.out, HA.out]
              congr 1
              omega
            case measure => (simp [intOf] <;> omega)
        · obtain rfl : j = ln := by omega
          have hd : decide ((j : Int) < j) = false := by simp
          rw [List.take_of_length_le (by have := Hln.out; omega), ← HG.out.1]
          clear hl
          go_wp2_with fail
          go_ret
          exact ⟨rfl, hb.out⟩
theorem quiet_load_node {o : Oper} {a : Act} {C : World → Prop} {K : Act → Prop} (x : Operand) (ho : o.op = .load 39 x) (b off : Nat) (cs : List Value) (hx : a.eval x = .pointer (some ⟨b, off, none⟩))
    (h : ∀ w, C w → Node9 w b off cs) (hK : K (a.put o.dst (.agg cs.toArray))) : o.quiet Tryz.prog a C K :=
  ⟨.agg cs.toArray, fun w hw => by
    unfold Oper.quietAt execOp
    simp only [ho, hx, Instr.loadAt, Instr.sureAddr, Sem.run_bind, Sem.run_pure, Result.andThen_ok, loadNode (h w hw)]
    exact ⟨rfl, rfl⟩, hK⟩
set_option maxHeartbeats 4000000 in
theorem valid_walk {x : Nd} {cs : List Value} {w : World} (hat : Nd.at w x cs) : Calls Tryz.prog 36 #[.agg cs.toArray] w fun e w' => e = .returned (.bool (validN x)) ∧ Below w.heap.size w w' := by
  obtain ⟨k, s, lo, hi, n, a, len, cap, rfl⟩ := Nd.lit hat
  obtain ⟨W1, hW1⟩ : ∃ W1, W1 = w.alloc (.cells #[.int .i64 k, .int .u64 (word s 0), .int .u64 (word s 1), .int .u64 (word s 2), .int .u64 (word s 3), .int .i64 lo, .int .i64 hi, .int .i64 n, .slice a len cap] 39) := ⟨_, rfl⟩
  have hB1 : Below w.heap.size w W1 := by rw [hW1]; exact alloc_below w _
  have hbx : NodeIn W1 w.heap.size #[.int .i64 k, .int .u64 (word s 0), .int .u64 (word s 1), .int .u64 (word s 2), .int .u64 (word s 3), .int .i64 lo, .int .i64 hi, .int .i64 n, .slice a len cap] := by rw [hW1]; exact World.alloc_heap_new w _
  have hatL : ∀ L : Later W1, Nd.at L.val x [.int .i64 k, .int .u64 (word s 0), .int .u64 (word s 1), .int .u64 (word s 2), .int .u64 (word s 3), .int .i64 lo, .int .i64 hi, .int .i64 n, .slice a len cap] := fun L => Nd.at_below (hB1.trans (L.ok.mono hB1.size)) (Nat.le_refl _) _ _ hat
  have h9 : ∀ w', (∃ L : Later W1, w' = L.val) → Node9 w' w.heap.size 0 [.int .i64 k, .int .u64 (word s 0), .int .u64 (word s 1), .int .u64 (word s 2), .int .u64 (word s 3), .int .i64 lo, .int .i64 hi, .int .i64 n, .slice a len cap] := fun w' hw' => by
    obtain ⟨L, rfl⟩ := hw'
    exact node9_in ((L.ok.block _ (lt_of_block hbx)).trans hbx) rfl
  have hsize := fun L : Later W1 => Go.Proofs.YtlgpbgcheeaalaaGreatDoor.size_walk (hatL L)
  have hgr : x.count ≤ 100000 → ∀ L : Later W1, _ := fun h L => groups_any x.count x _ L.val (Nat.le_refl _) h (hatL L)
  have hgood := fun L : Later W1 => Go.Proofs.YtlgpbgcheeaalaaGreatDoor.good_walk false false (Nd.grp x : Int) (hatL L)
  have hsv : sizeOfN x = min x.count 100000 := rfl
  have hval : validN x = (decide (x.count ≤ 2000) && goodP x (Nd.grp x : Int)) := rfl
  rw [hval]
  clear hval
  obtain ⟨S, hS⟩ : ∃ S : Int, S = (sizeOfN x : Int) := ⟨_, rfl⟩
  have hSv : S = ((min x.count 100000 : Nat) : Int) := by rw [hS, hsv]
  rw [← hS] at hsize
  have hne := Later.nonempty W1
  have hgc := grp_count x
  have HB1 := Lib.hid hB1
  have Hsize := Lib.hid hsize
  by_cases hc : x.count ≤ 2000
  · have hgr2 := hgr (by omega)
    rw [decide_eq_true hc, Bool.true_and]
    have hG0 : (0 : Int) ≤ (Nd.grp x : Int) := by omega
    have hG1 : (Nd.grp x : Int) ≤ 100000 := by omega
    generalize goodP x (Nd.grp x : Int) = g at hgood ⊢
    generalize (Nd.grp x : Int) = G at *
    have Hgr := Lib.hid hgr2
    have Hgood := Lib.hid hgood
    clear hsize hgr hgr2 hgood hsv hatL hB1 hS hbx hat hgc
    have hd : decide (S ≤ 2000) = true := by simp; omega
    have hd2 : decide (2000 ≥ S) = true := by simp; omega
    clear hc hSv
    go_enter Tryz.func36, Tryz.ntmps36
    go_upto_region 1 with fail
    rw [← hW1]
    clear hW1
    refine wp_region_later (W0 := W1) (Below.refl _ _) (by kernel_rfl) (by as_aux_lemma => kernel_rfl) ?_
    go_big_quiet_want
    refine quiet_load_node _ rfl w.heap.size 0 _ rfl h9 ?_
    go_big_quiet_on
    simp only [Act.put, List.setIfInBounds_toArray, List.set_cons_zero, List.set_cons_succ]
    go_big_quiet_step (exact Later.calls (Hsize.out _))
    iterate 2 (go_big_quiet_step (fail))
    iterate 2 (
      go_big_quiet_want
      refine quiet_load_node _ rfl w.heap.size 0 _ rfl h9 ?_
      go_big_quiet_on
      simp only [Act.put, List.setIfInBounds_toArray, List.set_cons_zero, List.set_cons_succ])
    go_big_quiet_step (exact Later.calls (Hgr.out _))
    go_big_quiet_step (fail)
    go_big_quiet_step (exact Later.calls (Hgood.out _))
    iterate 2 (go_big_quiet_step (fail))
    refine wpQuiet_nil ?_
    intro w' hw'
    obtain ⟨L', rfl⟩ := hw'
    have hB5 := HB1.out.trans (L'.ok.mono HB1.out.size)
    clear Hsize Hgr Hgood h9
    go_wp2_with fail
    go_ret
    exact ⟨rfl, hB5⟩
  · rw [decide_eq_false hc, Bool.false_and]
    have Hgr := Lib.hid hc
    have Hgood := Lib.hid hc
    clear hsize hgr hgood hsv hatL hB1 hS hbx hat hgc
    have hd : decide (S ≤ 2000) = false := by simp; omega
    have hd2 : decide (2000 ≥ S) = false := by simp; omega
    clear hc hSv
    go_enter Tryz.func36, Tryz.ntmps36
    go_upto_region 1 with fail
    rw [← hW1]
    clear hW1
    refine wp_region_later (W0 := W1) (Below.refl _ _) (by kernel_rfl) (by as_aux_lemma => kernel_rfl) ?_
    go_big_quiet_want
    refine quiet_load_node _ rfl w.heap.size 0 _ rfl h9 ?_
    go_big_quiet_on
    simp only [Act.put, List.setIfInBounds_toArray, List.set_cons_zero, List.set_cons_succ]
    go_big_quiet_step (exact Later.calls (Hsize.out _))
    iterate 2 (go_big_quiet_step (fail))
    iterate 5 (go_big_quiet_step (fail))
    iterate 2 (go_big_quiet_step (fail))
    refine wpQuiet_nil ?_
    intro w' hw'
    obtain ⟨L', rfl⟩ := hw'
    have hB5 := HB1.out.trans (L'.ok.mono HB1.out.size)
    clear Hsize Hgr Hgood h9
    go_wp2_with fail
    go_ret
    exact ⟨rfl, hB5⟩
/-- the state when the core is made -/
theorem of_state {w W1 w2 w4 w5 : World} {x : Cr} {sz : Nat} {cs : List Value} {o o' : Obj} (hal : Below w.heap.size w W1) (hs1 : W1.heap.size = w.heap.size + 2) (hres : CoreIn W1 (w.heap.size + 1) #[.int .i64 0, .int .u64 0, .int .u64 0, .int .u64 0, .int .u64 0, .int .i64 0, .slice none 0 0]) (hb2 : Below W1.heap.size W1 w2) {ca : Array Value} (_ : CoreIn w5 w4.heap.size ca) (ho : Only w4.heap.size (w4.alloc o') w5)
    (hin : CrIn (fromB (w2.alloc o).heap.size) w4 x cs) (hv : Var w4 w2.heap.size (.int .i64 (sz : Int)) 86) (hb : But w2.heap.size (w2.alloc o) w4) :
    CrIn (fromB (w2.alloc o).heap.size) w5 x cs ∧ Var w5 w2.heap.size (.int .i64 (sz : Int)) 86 ∧ Below w.heap.size w w5 ∧ CoreIn w5 (w.heap.size + 1) #[.int .i64 0, .int .u64 0, .int .u64 0, .int .u64 0, .int .u64 0, .int .i64 0, .slice none 0 0] ∧ w.heap.size + 3 ≤ (w2.alloc o).heap.size := by
  have h2 := alloc_below w4 o'
  have hs2 := hb2.size
  have hs4 := hb.size
  have hsa : (w2.alloc o).heap.size = w2.heap.size + 1 := by simp
  refine ⟨hin.mono (by rw [ho.size]; exact h2.size) fun k h1 hk => ⟨h1, (ho.block k (by omega)).trans (h2.block k hk)⟩, var_only ho (hv.below h2 hv.lt) (by have := hv.lt; omega), ?_, ?_, by omega⟩
  · have hb0 : Below w.heap.size w (w2.alloc o) := (hal.trans (hb2.mono hal.size)).trans ((alloc_below w2 o).mono (by omega))
    exact ho.below ((hb.below hb0 (by omega) (by omega)).trans (h2.mono (by omega))) (by omega)
  · exact core_only ho (core_later h2 (core_but hb (core_later (alloc_below w2 o) (core_later hb2 hres)) (by omega))) (by omega)
theorem results_coreErr {fn : Func} {p u : Tmp} (h : fn.results = #[.cell p 30, .tmp u]) (tmps : Array Value) (w : World) (b : Nat) (cs : Array Value) (hp : tmps.getD p undef = .pointer (some ⟨b, 0, none⟩)) (h0 : CoreIn w b cs) (hc : cs.size = 7) :
    (results fn tmps).run Tryz.prog w = .ok (.tuple #[.agg cs, tmps.getD u undef]) w := by
  have hp' : tmps[p]?.getD undef = .pointer (some ⟨b, 0, none⟩) := by simpa using hp
  simp [results, h, hp', asAddr, run_loadVar_row w b _ _ cs _ _ h0 Tryz.underlying30 rfl (show _ = some cs.size from by rw [hc]; exact infoCore)]
/-- what core.Of hands back -/
def OfPostC (w : World) (r : Cr × Int) (e : Ending) (w' : World) : Prop := ∃ ds : List Value, e = .returned (.tuple #[.agg ds.toArray, .int .i64 r.2]) ∧ CrIn (fromB w.heap.size) w' r.1 ds ∧ Below w.heap.size w w'
theorem zero_in {q : Nat → Bool} (w : World) : CrIn q w zeroC [.int .i64 0, .int .u64 0, .int .u64 0, .int .u64 0, .int .u64 0, .int .i64 0, .slice none 0 0] := RowIn.core (k := 0) (n := 0) (.inl ⟨rfl, rfl⟩) rfl rfl
set_option maxHeartbeats 8000000 in
theorem ofC_walk {x : Nd} {cs : List Value} {w : World} (hat : Nd.at w x cs) : Calls Tryz.prog 13 #[.agg cs.toArray] w (OfPostC w (ofC x)) := by
  obtain ⟨k, s, lo, hi, n, a, len, cap, rfl⟩ := Nd.lit hat
  obtain ⟨W1, hW1⟩ : ∃ W1, W1 = (w.alloc (.cells #[.int .i64 k, .int .u64 (word s 0), .int .u64 (word s 1), .int .u64 (word s 2), .int .u64 (word s 3), .int .i64 lo, .int .i64 hi, .int .i64 n, .slice a len cap] 39)).alloc (.cells #[.int .i64 0, .int .u64 0, .int .u64 0, .int .u64 0, .int .u64 0, .int .i64 0, .slice none 0 0] 30) := ⟨_, rfl⟩
  obtain ⟨hal, hs1, hbx, hres⟩ := boxed_core w _ _ hW1
  have hval := valid_walk (Nd.at_below hal (Nat.le_refl _) _ _ hat)
  have H1 := Lib.hid (And.intro hal (And.intro hs1 (And.intro hbx hres)))
  have H9 := Lib.hid (node9_in (cs := [.int .i64 k, .int .u64 (word s 0), .int .u64 (word s 1), .int .u64 (word s 2), .int .u64 (word s 3), .int .i64 lo, .int .i64 hi, .int .i64 n, .slice a len cap]) hbx rfl)
  have Hat := Lib.hid hat
  have hofd : ofC x = if validN x then (if (Nd.core x).count ≤ 2000 then (Nd.core x, 0) else (zeroC, 4)) else (zeroC, 1) := rfl
  cases hv : validN x with
  | false =>
    rw [hv] at hval hofd
    rw [hofd, if_neg Bool.false_ne_true]
    have Hval := Lib.hid hval
    clear hal hs1 hbx hres hval hofd hv hat
    go_enter Tryz.func13, Tryz.ntmps13
    go_upto_region 1 with fail
    rw [← hW1]
    clear hW1
    go_wp2_with (first
      | (refine wpList_load_node rfl _ rfl w.heap.size 0 _ rfl H9.out ?_)
      | (go_at_call 36; refine Hval.out.mono ?_; rintro e w2 ⟨rfl, hb2⟩; have Hb2 := Lib.hid hb2; clear hb2)
      | (refine wpList_store_core rfl _ _ rfl (w.heap.size + 1) _ #[.int .i64 0, .int .u64 0, .int .u64 0, .int .u64 0, .int .u64 0, .int .i64 0, .slice none 0 0] rfl rfl (core_later Hb2.out H1.out.2.2.2) rfl rfl (by simp [Value.oneCell']) ?_; intro w6 hs6 ho6; have H6 := Lib.hid (And.intro hs6 ho6); clear hs6 ho6)
      | fail)
    refine bodyPost_ret (results_coreErr rfl _ _ (w.heap.size + 1) _ rfl H6.out.1 rfl) rfl ?_
    exact ⟨[.int .i64 0, .int .u64 0, .int .u64 0, .int .u64 0, .int .u64 0, .int .i64 0, .slice none 0 0], rfl, zero_in w6, H6.out.2.below (H1.out.1.trans (Hb2.out.mono H1.out.1.size)) (Nat.le_succ _)⟩
  | true =>
    rw [hv] at hval hofd
    rw [hofd, if_pos rfl]
    have hg : goodP x (Nd.grp x : Int) = true := by
      unfold validN at hv
      rw [Bool.and_eq_true] at hv
      exact hv.2
    obtain ⟨_, m, hform⟩ := good_grp hg
    have hcount := (good_size hg).1
    have hfits := mk_fits x.count x 1 m (Nat.le_refl _) hform 0
    have hnode := fun (R : Nat) (hR : w.heap.size ≤ R) => node_any hR x.count x 1 m (Nat.le_refl _) hcount hform _ hat
    have Hval := Lib.hid hval
    have Hnode := Lib.hid hnode
    have hfull : decide (2000 < (Nd.mkC x 0).2) = !decide ((Nd.core x).count ≤ 2000) := by
      by_cases h : (Nd.core x).count ≤ 2000
      · rw [hfits.1 (by omega), decide_eq_true h]
        show decide (2000 < 0 + (Nd.core x).count) = _
        rw [decide_eq_false (by omega)]; rfl
      · rw [decide_eq_true (hfits.2 (by omega)), decide_eq_false h]; rfl
    have Hfull := Lib.hid hfull
    have Hfits := Lib.hid hfits.1
    clear hal hs1 hbx hres hval hofd hv hat hg hform hcount hfits hnode hfull
    by_cases hc : (Nd.core x).count ≤ 2000
    · rw [if_pos hc]
      have Hc := Lib.hid hc
      clear hc
      go_enter Tryz.func13, Tryz.ntmps13
      go_upto_region 1 with fail
      rw [← hW1]
      clear hW1
      go_wp2_with (first
        | (refine wpList_load_node rfl _ rfl w.heap.size 0 _ rfl H9.out ?_)
        | (go_at_call 36; refine Hval.out.mono ?_; rintro e w2 ⟨rfl, hb2⟩; have Hb2 := Lib.hid hb2; clear hb2)
        | (refine wpList_load_node rfl _ rfl w.heap.size 0 _ rfl (show Node9 (w2.alloc _) w.heap.size 0 _ from node9_in (cs := [.int .i64 k, .int .u64 (word s 0), .int .u64 (word s 1), .int .u64 (word s 2), .int .u64 (word s 3), .int .i64 lo, .int .i64 hi, .int .i64 n, .slice a len cap]) (((alloc_below w2 _).block _ (by have := Hb2.out.size; have := H1.out.2.1; omega)).trans ((Hb2.out.block _ (by have := H1.out.2.1; omega)).trans H1.out.2.2.1)) rfl) ?_)
        | (go_at_call 37; refine (Hnode.out w2.heap.size (by have := Hb2.out.size; have := H1.out.2.1; omega) (w2.alloc (.cells #[.int .i64 0] 86)) 0 (((H1.out.1.trans (Hb2.out.mono H1.out.1.size)).trans ((alloc_below w2 _).mono (by have := Hb2.out.size; have := H1.out.2.1; omega)))) (Var.new w2 (.int .i64 0) _) (by omega)).mono ?_; rintro e w4 ⟨ds, rfl, hy, hv', hb'⟩; obtain ⟨k4, s4, n4, a4, len4, cap4, rfl⟩ := hy.lit; have H4 := Lib.hid (And.intro hy (And.intro hv' hb')); clear hy hv' hb')
        | (refine wpList_store_core rfl _ _ rfl w4.heap.size #[.int .i64 0, .int .u64 0, .int .u64 0, .int .u64 0, .int .u64 0, .int .i64 0, .slice none 0 0] #[.int .i64 k4, .int .u64 (word s4 0), .int .u64 (word s4 1), .int .u64 (word s4 2), .int .u64 (word s4 3), .int .i64 n4, .slice a4 len4 cap4] rfl rfl (World.alloc_heap_new w4 _) rfl rfl (by simp [Value.oneCell']) ?_; intro w5 hs5 ho5; have H5 := Lib.hid (of_state H1.out.1 H1.out.2.1 H1.out.2.2.2 Hb2.out (hs5 : CoreIn w5 w4.heap.size #[.int .i64 k4, .int .u64 (word s4 0), .int .u64 (word s4 1), .int .u64 (word s4 2), .int .u64 (word s4 3), .int .i64 n4, .slice a4 len4 cap4]) ho5 H4.out.1 H4.out.2.1 H4.out.2.2); have H57 := Lib.hid (core7_in (cs := [.int .i64 k4, .int .u64 (word s4 0), .int .u64 (word s4 1), .int .u64 (word s4 2), .int .u64 (word s4 3), .int .i64 n4, .slice a4 len4 cap4]) hs5 rfl); clear hs5 ho5; have hfl := full_walk H5.out.2.1; rw [Hfull.out, decide_eq_true Hc.out] at hfl; have Hfl := Lib.hid hfl; clear hfl)
        | (go_at_call 38; refine Hfl.out.mono ?_; rintro e wf ⟨rfl, hwf⟩; subst wf)
        | (refine wpList_load_core rfl _ rfl w4.heap.size 0 _ rfl H57.out ?_)
        | (refine wpList_store_core rfl _ _ rfl (w.heap.size + 1) _ #[.int .i64 k4, .int .u64 (word s4 0), .int .u64 (word s4 1), .int .u64 (word s4 2), .int .u64 (word s4 3), .int .i64 n4, .slice a4 len4 cap4] rfl rfl H5.out.2.2.2.1 rfl rfl (by simp [Value.oneCell']) ?_; intro w6 hs6 ho6; have H6 := Lib.hid (And.intro hs6 ho6); clear hs6 ho6)
        | fail)
      refine bodyPost_ret (results_coreErr rfl _ _ (w.heap.size + 1) _ rfl H6.out.1 rfl) rfl ?_
      have h2 := Hfits.out (by have := Hc.out; omega)
      have h3 := H5.out.1
      rw [h2] at h3
      exact ⟨[.int .i64 k4, .int .u64 (word s4 0), .int .u64 (word s4 1), .int .u64 (word s4 2), .int .u64 (word s4 3), .int .i64 n4, .slice a4 len4 cap4], rfl, h3.onto H6.out.2 (fun k h _ => ⟨fromB_le h (by have := H5.out.2.2.2.2; omega), by have := fromB_ge h; have := H5.out.2.2.2.2; omega⟩), H6.out.2.below H5.out.2.2.1 (Nat.le_succ _)⟩
    · rw [if_neg hc]
      have Hc := Lib.hid hc
      clear hc
      go_enter Tryz.func13, Tryz.ntmps13
      go_upto_region 1 with fail
      rw [← hW1]
      clear hW1
      go_wp2_with (first
        | (refine wpList_load_node rfl _ rfl w.heap.size 0 _ rfl H9.out ?_)
        | (go_at_call 36; refine Hval.out.mono ?_; rintro e w2 ⟨rfl, hb2⟩; have Hb2 := Lib.hid hb2; clear hb2)
        | (refine wpList_load_node rfl _ rfl w.heap.size 0 _ rfl (show Node9 (w2.alloc _) w.heap.size 0 _ from node9_in (cs := [.int .i64 k, .int .u64 (word s 0), .int .u64 (word s 1), .int .u64 (word s 2), .int .u64 (word s 3), .int .i64 lo, .int .i64 hi, .int .i64 n, .slice a len cap]) (((alloc_below w2 _).block _ (by have := Hb2.out.size; have := H1.out.2.1; omega)).trans ((Hb2.out.block _ (by have := H1.out.2.1; omega)).trans H1.out.2.2.1)) rfl) ?_)
        | (go_at_call 37; refine (Hnode.out w2.heap.size (by have := Hb2.out.size; have := H1.out.2.1; omega) (w2.alloc (.cells #[.int .i64 0] 86)) 0 (((H1.out.1.trans (Hb2.out.mono H1.out.1.size)).trans ((alloc_below w2 _).mono (by have := Hb2.out.size; have := H1.out.2.1; omega)))) (Var.new w2 (.int .i64 0) _) (by omega)).mono ?_; rintro e w4 ⟨ds, rfl, hy, hv', hb'⟩; obtain ⟨k4, s4, n4, a4, len4, cap4, rfl⟩ := hy.lit; have H4 := Lib.hid (And.intro hy (And.intro hv' hb')); clear hy hv' hb')
        | (refine wpList_store_core rfl _ _ rfl w4.heap.size #[.int .i64 0, .int .u64 0, .int .u64 0, .int .u64 0, .int .u64 0, .int .i64 0, .slice none 0 0] #[.int .i64 k4, .int .u64 (word s4 0), .int .u64 (word s4 1), .int .u64 (word s4 2), .int .u64 (word s4 3), .int .i64 n4, .slice a4 len4 cap4] rfl rfl (World.alloc_heap_new w4 _) rfl rfl (by simp [Value.oneCell']) ?_; intro w5 hs5 ho5; have H5 := Lib.hid (of_state H1.out.1 H1.out.2.1 H1.out.2.2.2 Hb2.out (hs5 : CoreIn w5 w4.heap.size #[.int .i64 k4, .int .u64 (word s4 0), .int .u64 (word s4 1), .int .u64 (word s4 2), .int .u64 (word s4 3), .int .i64 n4, .slice a4 len4 cap4]) ho5 H4.out.1 H4.out.2.1 H4.out.2.2); clear hs5 ho5; have hfl := full_walk H5.out.2.1; rw [Hfull.out, decide_eq_false Hc.out] at hfl; have Hfl := Lib.hid hfl; clear hfl)
        | (go_at_call 38; refine Hfl.out.mono ?_; rintro e wf ⟨rfl, hwf⟩; subst wf)
        | (refine wpList_store_core rfl _ _ rfl (w.heap.size + 1) _ #[.int .i64 0, .int .u64 0, .int .u64 0, .int .u64 0, .int .u64 0, .int .i64 0, .slice none 0 0] rfl rfl H5.out.2.2.2.1 rfl rfl (by simp [Value.oneCell']) ?_; intro w6 hs6 ho6; have H6 := Lib.hid (And.intro hs6 ho6); clear hs6 ho6)
        | fail)
      refine bodyPost_ret (results_coreErr rfl _ _ (w.heap.size + 1) _ rfl H6.out.1 rfl) rfl ?_
      exact ⟨[.int .i64 0, .int .u64 0, .int .u64 0, .int .u64 0, .int .u64 0, .int .i64 0, .slice none 0 0], rfl, zero_in w6, H6.out.2.below H5.out.2.2.1 (Nat.le_succ _)⟩
end K
end Go.Proofs.YtlgpbgcheeaalaaGreatDoor
/-! What the laws of layer 8 lean on: a pattern's core, written; awake. -/
namespace Go.Proofs.YtlgpbgcheeaalaaGreatDoor
namespace K
set_option maxRecDepth 100000
open Go.RowKit
theorem of_nats8 {t u : ByteArray} (h : nats t = nats u) : t = u := by
  apply ByteArray.ext
  apply Array.toList_inj.1
  have hi : Function.Injective UInt8.toNat := fun a b h => UInt8.toNat_inj.1 h
  exact List.map_inj_right (fun a b h => hi h) |>.1 h
theorem of_good8 {q : List Nat} {st en : Bool} {x : Nd} {g : Nat} (h : ofP cls q = .ok st en x g) : goodP x g = true := by
  unfold ofP at h
  split at h
  · cases h
  · split at h
    · cases h
    · unfold ofTokens at h
      split at h
      · cases h
      · split at h
        · rename_i hg
          injection h with _ _ h1 h2
          subst h1 h2
          exact hg
        · cases h
/-- what law 8's text tells of a text -/
def lawText (q : List Nat) : List Nat := match ofP cls q with
  | .err _ _ => [101, 114, 114, 111, 114]
  | .ok _ _ x _ => if (ofC x).2 = 0 then textC (ofC x).1 else [108, 97, 114, 103, 101]
theorem of_two {x : Nd} (h : validN x = true) : ((ofC x).2 = 0 ∧ (Nd.core x).count ≤ 2000 ∧ (ofC x).1 = Nd.core x) ∨ ((ofC x).2 = 4 ∧ 2000 < (Nd.core x).count ∧ (ofC x).1 = zeroC) := by
  unfold ofC
  rw [if_pos h]
  split
  · rename_i hc; exact .inl ⟨rfl, hc, rfl⟩
  · rename_i hc; exact .inr ⟨rfl, by omega, rfl⟩
set_option maxHeartbeats 4000000 in
theorem text8_walk (s : ByteArray) (w : World) (hT : TabAt 0 Lib.deBruijn64tab w) (hM : MaxAt w) : Calls Tryz.prog 9 #[.string s] w (TextIs w (lawText (nats s))) := by
  have hofw := of_walk s w hM
  have HT := Lib.hid (And.intro hT hM)
  have hlt : lawText (nats s) = match ofP cls (nats s) with | .err _ _ => [101, 114, 114, 111, 114] | .ok _ _ x _ => if (ofC x).2 = 0 then textC (ofC x).1 else [108, 97, 114, 103, 101] := rfl
  rw [hlt]
  clear hlt hT hM
  cases hof : ofP cls (nats s) with
  | err kk e' =>
    rw [hof] at hofw
    have he : (e' == 0) = false := by simpa using of_err hof
    have hne : (e' != 0) = true := by simp [bne, he]
    have Hofw := Lib.hid hofw
    clear hofw hof
    show Calls _ _ _ _ (TextIs w [101, 114, 114, 111, 114])
    go_enter Tryz.func9, Tryz.ntmps9
    go_wp2_with fail
    refine Hofw.out.mono ?_
    rintro e w1 ⟨rfl, hb1⟩
    have Hb1 := Lib.hid hb1
    clear hb1
    go_wp2_with fail
    go_ret
    exact ⟨⟨_, rfl, rfl⟩, Hb1.out.alloc Hb1.out.size _⟩
  | ok st en x g =>
    rw [hof] at hofw
    have hvx := good_valid (of_good8 hof)
    show Calls _ _ _ _ (TextIs w (if (ofC x).2 = 0 then textC (ofC x).1 else [108, 97, 114, 103, 101]))
    have Hofw := Lib.hid hofw
    have hcase := of_two hvx
    have hget := fun (w' : World) (cs : List Value) (h : Nd.at w' x cs) => ofC_walk h
    generalize ofC x = r at hcase hget ⊢
    obtain ⟨C, E⟩ := r
    simp only at hcase ⊢
    have Hget := Lib.hid hget
    obtain ⟨TT, hTT⟩ : ∃ TT, TT = if E = 0 then textC C else [108, 97, 114, 103, 101] := ⟨_, rfl⟩
    rw [← hTT]
    have HTT := Lib.hid hTT
    clear hofw hof hvx hget hTT
    go_enter Tryz.func9, Tryz.ntmps9
    go_wp2_with fail
    refine Hofw.out.mono ?_
    rintro e w1 ⟨cs1, rfl, hat1, hb1⟩
    obtain ⟨k4, s4, lo4, hi4, n4, a4, len4, cap4, rfl⟩ := Nd.lit hat1
    simp only [patCells, List.cons_append, List.nil_append]
    obtain ⟨W2, hW2⟩ : ∃ W2, W2 = w1.alloc (.cells #[.bool st, .bool en, .int .i64 k4, .int .u64 (word s4 0), .int .u64 (word s4 1), .int .u64 (word s4 2), .int .u64 (word s4 3), .int .i64 lo4, .int .i64 hi4, .int .i64 n4, .slice a4 len4 cap4, .int .i64 (g : Int)] 70) := ⟨_, rfl⟩
    have hal : Below w1.heap.size w1 W2 := by rw [hW2]; exact alloc_below w1 _
    have hpt : PatIn W2 w1.heap.size #[.bool st, .bool en, .int .i64 k4, .int .u64 (word s4 0), .int .u64 (word s4 1), .int .u64 (word s4 2), .int .u64 (word s4 3), .int .i64 lo4, .int .i64 hi4, .int .i64 n4, .slice a4 len4 cap4, .int .i64 (g : Int)] := by rw [hW2]; exact pat_new w1 _
    have hgt := Hget.out W2 _ (Nd.at_below hal (Nat.le_refl _) _ _ hat1)
    have H92 := Lib.hid (node9_pat hpt)
    have Hgt := Lib.hid hgt
    have Hb2 := Lib.hid (hb1.trans (hal.mono hb1.size))
    clear hal hpt hgt hb1 hat1
    go_upto_region 2 with fail
    rw [← hW2]
    clear hW2
    go_wp2_with (first | (refine wpList_load_node rfl _ rfl w1.heap.size 2 _ rfl H92.out ?_))
    refine Hgt.out.mono ?_
    rintro e w3 ⟨ds, rfl, hin, hb3⟩
    obtain ⟨k5, s5, n5, a5, len5, cap5, rfl⟩ := hin.lit
    have Hin := Lib.hid hin
    have Hb23 := Lib.hid (Hb2.out.trans (hb3.mono Hb2.out.size))
    clear hb3 hin
    rcases hcase with ⟨rfl, _, _⟩ | ⟨rfl, _, _⟩
    · go_wp2_with (first | (refine wpList_store_core rfl _ _ rfl w3.heap.size #[.int .i64 0, .int .u64 0, .int .u64 0, .int .u64 0, .int .u64 0, .int .i64 0, .slice none 0 0] #[.int .i64 k5, .int .u64 (word s5 0), .int .u64 (word s5 1), .int .u64 (word s5 2), .int .u64 (word s5 3), .int .i64 n5, .slice a5 len5 cap5] rfl rfl (World.alloc_heap_new w3 _) rfl rfl (by simp [Value.oneCell']) ?_; intro w4 hs4 ho4; have H4 := Lib.hid (And.intro hs4 (Hb23.out.trans ((ho4.below (alloc_below w3 _) (Nat.le_refl _)).mono Hb23.out.size))); have H74 := Lib.hid (core7_in (cs := [.int .i64 k5, .int .u64 (word s5 0), .int .u64 (word s5 1), .int .u64 (word s5 2), .int .u64 (word s5 3), .int .i64 n5, .slice a5 len5 cap5]) hs4 rfl); have htx := text_walk (Cr.at_below (ho4.below (alloc_below w3 _) (Nat.le_refl _)) (Nat.le_refl _) _ _ Hin.out.at) (tab_below HT.out.1 H4.out.2 (tab_pos HT.out.1)); have Htx := Lib.hid htx; clear hs4 ho4 htx) | (refine wpList_load_core rfl _ rfl w3.heap.size 0 _ rfl H74.out ?_) | (go_at_call 12; refine Htx.out.mono ?_; rintro e w5 ⟨⟨t, rfl, ht⟩, hb5⟩; have H5 := Lib.hid (And.intro ht hb5); clear ht hb5))
      go_ret
      exact ⟨⟨_, rfl, by rw [HTT.out]; exact H5.out.1⟩, H4.out.2.trans (H5.out.2.mono H4.out.2.size)⟩
    · go_wp2_with (first | (refine wpList_store_core rfl _ _ rfl w3.heap.size #[.int .i64 0, .int .u64 0, .int .u64 0, .int .u64 0, .int .u64 0, .int .i64 0, .slice none 0 0] #[.int .i64 k5, .int .u64 (word s5 0), .int .u64 (word s5 1), .int .u64 (word s5 2), .int .u64 (word s5 3), .int .i64 n5, .slice a5 len5 cap5] rfl rfl (World.alloc_heap_new w3 _) rfl rfl (by simp [Value.oneCell']) ?_; intro w4 hs4 ho4; have H4 := Lib.hid (And.intro hs4 (Hb23.out.trans ((ho4.below (alloc_below w3 _) (Nat.le_refl _)).mono Hb23.out.size))); have H74 := Lib.hid (core7_in (cs := [.int .i64 k5, .int .u64 (word s5 0), .int .u64 (word s5 1), .int .u64 (word s5 2), .int .u64 (word s5 3), .int .i64 n5, .slice a5 len5 cap5]) hs4 rfl); have htx := text_walk (Cr.at_below (ho4.below (alloc_below w3 _) (Nat.le_refl _)) (Nat.le_refl _) _ _ Hin.out.at) (tab_below HT.out.1 H4.out.2 (tab_pos HT.out.1)); have Htx := Lib.hid htx; clear hs4 ho4 htx))
      go_ret
      exact ⟨⟨_, rfl, by rw [HTT.out]; rfl⟩, H4.out.2⟩
theorem awake_texts8 : lawText [97, 123, 50, 125] = [40, 60, 54, 49, 62, 46, 40, 126, 60, 54, 49, 62, 41, 41] ∧ lawText [97, 124, 98] = [40, 60, 54, 49, 62, 124, 60, 54, 50, 62, 41] := by decide +kernel
set_option maxHeartbeats 2000000 in
theorem awake8_any (w : World) (hT : TabAt 0 Lib.deBruijn64tab w) (hM : MaxAt w) : Calls Tryz.prog 8 #[] w fun e w' => e = .returned (.bool true) ∧ Below w.heap.size w w' := by
  have h1 := fun w' (hb : Below w.heap.size w w') => text8_walk ⟨#[97, 123, 50, 125]⟩ w' (tab_below hT hb (tab_pos hT)) (maxAt_below hM hb)
  have h2 := fun w' (hb : Below w.heap.size w w') => text8_walk ⟨#[97, 124, 98]⟩ w' (tab_below hT hb (tab_pos hT)) (maxAt_below hM hb)
  rw [show nats ⟨#[97, 123, 50, 125]⟩ = [97, 123, 50, 125] from rfl, awake_texts8.1] at h1
  rw [show nats ⟨#[97, 124, 98]⟩ = [97, 124, 98] from rfl, awake_texts8.2] at h2
  have H1 := Lib.hid h1
  have H2 := Lib.hid h2
  clear h1 h2 hT hM
  go_enter Tryz.func8, Tryz.ntmps8
  go_wp2_with fail
  refine (H1.out _ (Below.refl _ _)).mono ?_
  rintro e w1 ⟨⟨t, rfl, ht⟩, hb1⟩
  obtain rfl : t = ⟨#[40, 60, 54, 49, 62, 46, 40, 126, 60, 54, 49, 62, 41, 41]⟩ := of_nats8 ht
  have Hb1 := Lib.hid hb1
  clear hb1 ht
  go_wp2_with fail
  refine (H2.out _ Hb1.out).mono ?_
  rintro e w2 ⟨⟨t, rfl, ht⟩, hb2⟩
  obtain rfl : t = ⟨#[40, 60, 54, 49, 62, 124, 60, 54, 50, 62, 41]⟩ := of_nats8 ht
  have Hb2 := Lib.hid (Hb1.out.trans (hb2.mono Hb1.out.size))
  clear hb2 ht
  go_wp2_with fail
  go_ret
  exact ⟨rfl, Hb2.out⟩
end K
end Go.Proofs.YtlgpbgcheeaalaaGreatDoor
