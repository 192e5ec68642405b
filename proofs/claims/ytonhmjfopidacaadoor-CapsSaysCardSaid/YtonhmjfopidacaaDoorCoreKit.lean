/- Cores in blocks of their own, stored, appended, made of lists. -/
import Derived.Test.YtonhmjfopidacaaDoorCoreBig
import Derived.Test.YtonhmjfopidacaaDoorTreeOps
import Derived.Test.YtonhmjfopidacaaDoorBlockMem
import Derived.BigQuiet
namespace Go.Proofs.YtonhmjfopidacaaDoor
namespace K
set_option maxRecDepth 100000
open Go.RowKit
theorem at_cells {w : World} {x : Cr} {cs : List Value} (hat : Cr.at w x cs) : ∃ (s : BitVec 256) (n : Int) (a : Option Addr) (cap : Nat), x = .mk x.kind s n x.nodes ∧
    cs = [.int .i64 x.kind, .int .u64 (word s 0), .int .u64 (word s 1), .int .u64 (word s 2), .int .u64 (word s 3), .int .i64 n, .slice a x.nodes.length cap] := by
  cases x with
  | mk k s n l =>
    rw [at_mk] at hat
    obtain ⟨_, _, a, cap, hcs, _, _⟩ := hat
    exact ⟨s, n, a, cap, rfl, hcs⟩
theorem at_lit {W : World} {x : Cr} {cs : List Value} (h : Cr.at W x cs) : ∃ (k : Int) (s : BitVec 256) (n : Int) (a : Option Addr) (len cap : Nat), cs = [.int .i64 k, .int .u64 (word s 0), .int .u64 (word s 1), .int .u64 (word s 2), .int .u64 (word s 3), .int .i64 n, .slice a len cap] := by
  obtain ⟨s, n, a, cap, _, e⟩ := at_cells h
  exact ⟨_, s, n, a, _, cap, e⟩
def CoreIn (w : World) (b : Nat) (cs : Array Value) : Prop := w.heap[b]? = some (.cells cs 28)
theorem wpList_store_core {ops : Array Oper} {rest : List Oper} {o : Oper} {a : Act} {w : World} {Q : Exit → Act → World → Prop} (hgd : o.guard = none) (x y : Operand) (ho : o.op = .store 28 x y)
    (b : Nat) (cs ds : Array Value) (hx : a.eval x = .pointer (some ⟨b, 0, none⟩)) (hy : a.eval y = .agg ds) (hb : CoreIn w b cs) (hd : ds.size = 7) (hc : cs.size = 7) (h1 : (ds.all fun x => x.oneCell') = true)
    (h : ∀ w', CoreIn w' b ds → Only b w w' → wpList Tryd.prog ops Q rest (a.put o.dst undef) w') : wpList Tryd.prog ops Q (o :: rest) a w :=
  wpList_store_row hgd _ _ _ ho b _ hx hy _ _ hb (by rw [hd]; exact infoCore) (by rw [hd, hc]) h1 (h _ (setRow_heap w b _ _ _ _ hb) (only_row _ _ _))
theorem results_core {fn : Func} {p : Tmp} (h : fn.results = #[.cell p 28]) (tmps : Array Value) (w : World) (b : Nat) (cs : Array Value) (hp : tmps.getD p undef = .pointer (some ⟨b, 0, none⟩)) (hs : CoreIn w b cs) (hc : cs.size = 7) :
    (results fn tmps).run Tryd.prog w = .ok (.agg cs) w := results_cell_row h tmps w b _ _ _ _ hp hs Tryd.underlying28 rfl (show _ = some cs.size from by rw [hc]; exact infoCore)
theorem wpList_load_node_want {ops : Array Oper} {rest : List Oper} {o : Oper} {a : Act} {w : World} {Q : Exit → Act → World → Prop} (hw : Region.wanted o (yielded ops a.tmps) = true) (x : Operand) (ho : o.op = .load 28 x)
    (b off : Nat) (cs : List Value) (hx : a.eval x = .pointer (some ⟨b, off, none⟩)) (hc : Core7 w b off cs)
    (h : wpList Tryd.prog ops Q rest (a.put o.dst (.agg cs.toArray)) w) : wpList Tryd.prog ops Q (o :: rest) a w :=
  BigFrame.wpList_want hw fun _ hK => by
    unfold Oper.wp execOp
    simp only [ho, hx, Instr.loadAt, Instr.sureAddr, Sem.run_bind, Sem.run_pure, Result.andThen_ok, loadCore hc]
    exact hK _ _ h
theorem at_len {W : World} {N : Cr} {cs : List Value} (h : Cr.at W N cs) : cs.length = 7 := by
  obtain ⟨_, _, _, _, _, e⟩ := at_cells h
  rw [e]; rfl
theorem coresAt_cells {W : World} {b : Nat} : ∀ (L : List (Cr × List Value)) (off : Nat), (∀ p ∈ L, Cr.at W p.1 p.2) → (∀ q, q < L.length * 7 → W.cell? ⟨b, off + q, none⟩ = (L.flatMap (·.2))[q]?) → coresAt W (L.map (·.1)) b off
  | [], off, _, _ => by rw [List.map_nil, coresAt_nil]; trivial
  | p :: L, off, h, hc => by
    rw [List.map_cons, coresAt_cons]
    have hp := at_len (h p (by simp))
    refine ⟨⟨p.2, hp, fun q hq => ?_, h p (by simp)⟩, coresAt_cells L (off + 7) (fun r hr => h r (by simp [hr])) fun q hq => ?_⟩
    · rw [hc q (by simp; omega), List.flatMap_cons, List.getElem?_append_left (by omega)]
    · rw [Nat.add_assoc, hc (7 + q) (by simp; omega), List.flatMap_cons, List.getElem?_append_right (by omega)]
      congr 1
      omega
theorem at_made {W : World} {b : Nat} {k n : Int} (hk : fits64 k) (hn : fits64 n) (L : List (Cr × List Value)) (hL : L.length ≤ maxLen) (h : ∀ p ∈ L, Cr.at W p.1 p.2)
    (hb : W.heap[b]? = some (.cells (L.flatMap (·.2)).toArray 28)) :
    Cr.at W (.mk k 0 n (L.map (·.1))) [.int .i64 k, .int .u64 0, .int .u64 0, .int .u64 0, .int .u64 0, .int .i64 n, .slice (some ⟨b, 0, none⟩) L.length L.length] := by
  rw [at_mk]
  refine ⟨hk, hn, some ⟨b, 0, none⟩, L.length, ?_, by simpa using hL, .inr ⟨b, 0, rfl, by simp, (Array.getElem?_eq_some_iff.1 hb).1, coresAt_cells L 0 h fun q _ => ?_⟩⟩
  · simp only [word_zero, List.length_map]; rfl
  · simp [World.cell?, hb]
theorem at_plain {W : World} {k n : Int} (s : BitVec 256) (hk : fits64 k) (hn : fits64 n) :
    Cr.at W (.mk k s n []) [.int .i64 k, .int .u64 (word s 0), .int .u64 (word s 1), .int .u64 (word s 2), .int .u64 (word s 3), .int .i64 n, .slice none 0 0] := by
  rw [at_mk]
  exact ⟨hk, hn, none, 0, rfl, by decide, .inl rfl⟩
mutual
/-- what is there in one world is there in the other: so is a node -/
theorem Cr.at_same {w w' : World} (h : ∀ p v, w.cell? p = some v → w'.cell? p = some v) (hs : w.heap.size ≤ w'.heap.size) : ∀ (x : Cr) (cs : List Value), Cr.at w x cs → Cr.at w' x cs
  | .mk k s n l, cs, ha => by
    rw [at_mk] at ha ⊢
    obtain ⟨h1, h4, a, cap, h5, h6, h7⟩ := ha
    refine ⟨h1, h4, a, cap, h5, h6, ?_⟩
    rcases h7 with h7 | ⟨b, off, e1, e2, e3, e4⟩
    · exact .inl h7
    · exact .inr ⟨b, off, e1, e2, Nat.lt_of_lt_of_le e3 hs, coresAt_same h hs l b off e4⟩
theorem coresAt_same {w w' : World} (h : ∀ p v, w.cell? p = some v → w'.cell? p = some v) (hs : w.heap.size ≤ w'.heap.size) : ∀ (l : List Cr) (b off : Nat), coresAt w l b off → coresAt w' l b off
  | [], b, off, _ => by rw [coresAt_nil]; trivial
  | x :: l, b, off, ha => by
    rw [coresAt_cons] at ha ⊢
    obtain ⟨⟨cs, h1, h2, h3⟩, h4⟩ := ha
    refine ⟨⟨cs, h1, fun q hq => ?_, Cr.at_same h hs x cs h3⟩, coresAt_same h hs l b (off + 7) h4⟩
    have h5 := h2 q hq
    rw [List.getElem?_eq_getElem (by omega)] at h5 ⊢
    exact h _ _ h5
end
abbrev zeroCore : Value := .agg #[.int .i64 0, .int .u64 0, .int .u64 0, .int .u64 0, .int .u64 0, .int .i64 0, .slice none 0 0]
theorem info_core : (Tryd.prog.info? 28).map (fun i => (i.zero, i.size, i.bytes)) = some (some zeroCore, 7, 72) := by kernel_rfl
theorem wpList_append_core {ops : Array Oper} {rest : List Oper} {o : Oper} {a : Act} {w : World} {Q : Exit → Act → World → Prop} (hgd : o.guard = none) (s x : Operand)
    (ho : o.op = .call { callee := .builtin .append, args := #[s, x], argTypes := #[26, 26] }) (base : Nat) (v : Value) (n : Nat) (xs : List Value) (hs : a.eval s = v)
    (hown : w.ownsRow base 28 7 v n xs) (b : Nat) (cs : List Value) (hx : a.eval x = .slice (some ⟨b, 0, none⟩) 1 1) (hc : Core7 w b 0 cs) (h1 : ∀ u ∈ cs, u.oneCell' = true) (hn : n < 1000000000000) (hbase : base ≤ w.heap.size)
    (h : ∀ v' w', w'.ownsRow base 28 7 v' (n + 1) (xs ++ cs) → w.grownBy w' v.ownBlock → wpList Tryd.prog ops Q rest (a.put o.dst v') w') : wpList Tryd.prog ops Q (o :: rest) a w := by
  obtain ⟨i0, hi, hz0, hz1, hz2⟩ := info_parts info_core
  refine wpList_append_own w hgd s x _ ho base 28 i0 zeroCore 7 72 Tryd.underlying26 hi hz0 hz1 hz2 rfl (by decide) v n xs hs hown ⟨b, 0, none⟩ 1 1 cs hx (by rw [hc.1]) ?_ h1 (by unfold maxLen; omega) (by omega) hbase ?_
  · intro j u hj
    have hjl : j < 7 := by rw [← hc.1]; exact (List.getElem?_eq_some_iff.1 hj).1
    rw [addr_at, hc.2 j hjl, hj]
  · intro v' w' g1 g2 _
    exact h v' w' g1 g2
theorem coresAt_owns {w : World} {base : Nat} {v : Value} {n : Nat} (L : List (Cr × List Value)) (hL : ∀ p ∈ L, Cr.at w p.1 p.2) (hn : n = L.length) (h0 : 0 < n) (h : w.ownsRow base 28 7 v n (L.flatMap (·.2))) :
    ∃ g cap, v = .slice (some ⟨g, 0, none⟩) n cap ∧ base ≤ g ∧ g < w.heap.size ∧ n ≤ cap ∧ n ≤ maxLen ∧ coresAt w (L.map (·.1)) g 0 := by
  rcases h.2 with ⟨_, h1⟩ | ⟨g, cap, cur, rfl, hb, hg, hc, hm, hs, htake⟩
  · omega
  · refine ⟨g, cap, rfl, hb, (Array.getElem?_eq_some_iff.1 hg).1, hc, by omega, coresAt_cells L 0 hL fun q hq => ?_⟩
    have hlen := h.1
    obtain ⟨u, hu⟩ : ∃ u, (L.flatMap (·.2))[q]? = some u := ⟨_, List.getElem?_eq_getElem (by omega)⟩
    have := h.cells (g := g) rfl q u hu
    rw [addr_at] at this
    rw [this, hu]
theorem core7_in {w : World} {b : Nat} {cs : List Value} (h : CoreIn w b cs.toArray) (hc : cs.length = 7) : Core7 w b 0 cs := ⟨hc, fun q _ => by rw [Nat.zero_add, cells_at h]; simp⟩
theorem at_cell_one {w : World} {x : Cr} {cs : List Value} (h : Cr.at w x cs) : ∀ u ∈ cs, u.oneCell' = true := by
  obtain ⟨_, _, _, _, _, e⟩ := at_cells h
  rw [e]
  simp only [List.forall_mem_cons]
  exact ⟨rfl, rfl, rfl, rfl, rfl, rfl, rfl, fun p hp => by cases hp⟩
theorem alloc_below (w : World) (o : Obj) : Below w.heap.size w (w.alloc o) := (Below.refl _ _).alloc (Nat.le_refl _) _
theorem core_later {c : Nat} {w w' : World} {cs : Array Value} (h : Below w.heap.size w w') (hn : CoreIn w c cs) : CoreIn w' c cs := (h.block c (lt_of_block hn)).trans hn
theorem quiet_load_core {o : Oper} {a : Act} {C : World → Prop} {K : Act → Prop} (x : Operand) (ho : o.op = .load 28 x) (b off : Nat) (cs : List Value) (hx : a.eval x = .pointer (some ⟨b, off, none⟩))
    (h : ∀ w, C w → Core7 w b off cs) (hK : K (a.put o.dst (.agg cs.toArray))) : o.quiet Tryd.prog a C K :=
  ⟨.agg cs.toArray, fun w hw => by
    unfold Oper.quietAt execOp
    simp only [ho, hx, Instr.loadAt, Instr.sureAddr, Sem.run_bind, Sem.run_pure, Result.andThen_ok, loadCore (h w hw)]
    exact ⟨rfl, rfl⟩, hK⟩
end K
end Go.Proofs.YtonhmjfopidacaaDoor
