/- Law 5's set and awake, walked. -/
import Derived.Test.YtaanhijjhllckaaTreeSets
import Derived.Test.YtaanhijjhllckaaTreeOps
import Derived.Test.YtaanhijjhllckaaBlockAppend
import Derived.Test.YtaanhijjhllckaaTreeSame
import Derived.Test.YtaanhijjhllckaaEager
import Derived.Test.YtaanhijjhllckaaText
namespace Go.Proofs.Ytaanhijjhllckaa
set_option maxRecDepth 100000
open Go.RowKit
/-- a node in a block of its own -/
def NodeIn (w : World) (b : Nat) (cs : Array Value) : Prop := w.heap[b]? = some (.cells cs 27)
theorem wpList_store_node {ops : Array Oper} {rest : List Oper} {o : Oper} {a : Act} {w : World} {Q : Exit → Act → World → Prop} (hgd : o.guard = none) (x y : Operand) (ho : o.op = .store 27 x y)
    (b : Nat) (cs ds : Array Value) (hx : a.eval x = .pointer (some ⟨b, 0, none⟩)) (hy : a.eval y = .agg ds) (hb : NodeIn w b cs) (hd : ds.size = 9) (hc : cs.size = 9) (h1 : (ds.all fun x => x.oneCell') = true)
    (h : ∀ w', NodeIn w' b ds → Only b w w' → wpList Try.prog ops Q rest (a.put o.dst undef) w') : wpList Try.prog ops Q (o :: rest) a w :=
  wpList_store_row hgd _ _ _ ho b _ hx hy _ _ hb (by rw [hd]; exact infoNode) (by rw [hd, hc]) h1 (h _ (setRow_heap w b _ _ _ _ hb) (only_row _ _ _))
theorem results_node {fn : Func} {p : Tmp} (h : fn.results = #[.cell p 27]) (tmps : Array Value) (w : World) (b : Nat) (cs : Array Value) (hp : tmps.getD p undef = .pointer (some ⟨b, 0, none⟩)) (hs : NodeIn w b cs) (hc : cs.size = 9) :
    (results fn tmps).run Try.prog w = .ok (.agg cs) w := results_cell_row h tmps w b _ _ _ _ hp hs Try.underlying27 rfl (show _ = some cs.size from by rw [hc]; exact infoNode)
/-- a node of one byte -/
def oneSet (b : Nat) : BitVec 256 := setOf [b]
abbrev setV (s : BitVec 256) : Value := .agg #[.int .i64 1, .int .u64 (word s 0), .int .u64 (word s 1), .int .u64 (word s 2), .int .u64 (word s 3), .int .i64 0, .int .i64 0, .int .i64 0, .slice none 0 0]
set_option maxRecDepth 100000 in
set_option maxHeartbeats 1000000 in
theorem set_any (b : Nat) (hb : b < 256) (w : World) :
    Calls Try.prog 19 #[.int .u8 b] w fun e w' => e = .returned (setV (oneSet b)) ∧ Below w.heap.size w w' := by
  have hof := fun (a : Option Addr) (cap : Nat) (w : World) h => of_any a 1 cap [b] w h
  rw [show setOf [b] = oneSet b from rfl] at hof
  generalize oneSet b = S at *
  go_enter Try.func19, Try.ntmps19
  go_wp2_with fail
  refine (hof _ _ _ (by simpa using bytes_lit (w.alloc _) [b] #[.int .u8 b] rfl (by simpa using hb) (by simp [maxLen]))).mono ?_
  rintro e w1 ⟨rfl, hb1⟩
  have hn : NodeIn w1 w.heap.size #[.int .i64 0, .int .u64 0, .int .u64 0, .int .u64 0, .int .u64 0, .int .i64 0, .int .i64 0, .int .i64 0, .slice none 0 0] :=
    (hb1.block w.heap.size (by simp; omega)).trans ((Below.heap_alloc _ _ _ (by simp)).trans (World.alloc_heap_new w _))
  have hb2 : Below w.heap.size w w1 := (two_below w _ _).trans (hb1.mono (by simp; omega))
  have Hn := Lib.hid hn
  clear hn hb1 hof
  go_wp2_with (refine wpList_store_node rfl _ _ rfl w.heap.size _ #[.int .i64 1, .int .u64 (word S 0), .int .u64 (word S 1), .int .u64 (word S 2), .int .u64 (word S 3), .int .i64 0, .int .i64 0, .int .i64 0, .slice none 0 0] rfl rfl Hn.out rfl rfl (by simp [Value.oneCell']) ?_; intro w2 hn2 ho2)
  refine bodyPost_ret (v := setV S) (results_node rfl _ _ w.heap.size _ rfl hn2 rfl) rfl ⟨rfl, ho2.below hb2 (Nat.le_refl _)⟩
/-- a row of two nodes in memory -/
theorem at_two {W : World} {b : Nat} (S T : BitVec 256) (h : W.heap[b]? = some (.cells #[.int .i64 1, .int .u64 (word S 0), .int .u64 (word S 1), .int .u64 (word S 2), .int .u64 (word S 3), .int .i64 0, .int .i64 0, .int .i64 0, .slice none 0 0,
      .int .i64 1, .int .u64 (word T 0), .int .u64 (word T 1), .int .u64 (word T 2), .int .u64 (word T 3), .int .i64 0, .int .i64 0, .int .i64 0, .slice none 0 0] 27)) :
    Nd.at W (.mk 2 0 0 0 0 [.mk 1 S 0 0 0 [], .mk 1 T 0 0 0 []]) [.int .i64 2, .int .u64 0, .int .u64 0, .int .u64 0, .int .u64 0, .int .i64 0, .int .i64 0, .int .i64 0, .slice (some ⟨b, 0, none⟩) 2 2] := by
  have hf : ∀ n : Int, n = 0 ∨ n = 1 ∨ n = 2 → fits64 n := by rintro n (rfl | rfl | rfl) <;> rfl
  have hleaf : ∀ U : BitVec 256, Nd.at W (.mk 1 U 0 0 0 []) [.int .i64 1, .int .u64 (word U 0), .int .u64 (word U 1), .int .u64 (word U 2), .int .u64 (word U 3), .int .i64 0, .int .i64 0, .int .i64 0, .slice none 0 0] := fun U => by
    rw [at_mk]
    exact ⟨hf 1 (by simp), hf 0 (by simp), hf 0 (by simp), hf 0 (by simp), none, 0, rfl, by decide, .inl rfl⟩
  rw [at_mk]
  refine ⟨hf 2 (by simp), hf 0 (by simp), hf 0 (by simp), hf 0 (by simp), some ⟨b, 0, none⟩, 2, ?_, by simp [maxLen], .inr ⟨b, 0, rfl, Nat.le_refl _, (Array.getElem?_eq_some_iff.1 h).1, ?_⟩⟩
  · simp only [word_zero]; rfl
  · rw [nodesAt_cons, nodesAt_cons, nodesAt_nil]
    refine ⟨⟨_, rfl, fun q hq => ?_, hleaf S⟩, ⟨_, rfl, fun q hq => ?_, hleaf T⟩, trivial⟩
    · have hq' : q = 0 ∨ q = 1 ∨ q = 2 ∨ q = 3 ∨ q = 4 ∨ q = 5 ∨ q = 6 ∨ q = 7 ∨ q = 8 := by omega
      rcases hq' with rfl | rfl | rfl | rfl | rfl | rfl | rfl | rfl | rfl <;> simp [World.cell?, h]
    · have hq' : q = 0 ∨ q = 1 ∨ q = 2 ∨ q = 3 ∨ q = 4 ∨ q = 5 ∨ q = 6 ∨ q = 7 ∨ q = 8 := by omega
      rcases hq' with rfl | rfl | rfl | rfl | rfl | rfl | rfl | rfl | rfl <;> simp [World.cell?, h]
def nodeAB : Nd := .mk 2 0 0 0 0 [.mk 1 (oneSet 97) 0 0 0 [], .mk 1 (oneSet 98) 0 0 0 []]
theorem awake5_facts : sizeOfN nodeAB = 3 ∧ depthOfN nodeAB = 2 ∧ goodP nodeAB 0 = true ∧ (accN (nodeAB.pre.take 100000) []).length = 2 := by decide +kernel
set_option maxRecDepth 100000 in
set_option maxHeartbeats 4000000 in
theorem awake5_any (w : World) : Calls Try.prog 4 #[] w fun e w' => e = .returned (.bool true) ∧ Below w.heap.size w w' := by
  obtain ⟨f1, f2, f3, f4⟩ := awake5_facts
  have ha := set_any 97 (by decide)
  have hb := set_any 98 (by decide)
  have hat : ∀ (W : World) (b : Nat), W.heap[b]? = _ → Nd.at W nodeAB _ := fun W b h => at_two (oneSet 97) (oneSet 98) h
  generalize hS : oneSet 97 = S at ha hat
  generalize hT : oneSet 98 = T at hb hat
  clear hS hT
  go_enter Try.func4, Try.ntmps4
  go_wp2_with fail
  refine (ha _).mono ?_
  rintro e w1 ⟨rfl, hb1⟩
  clear ha
  go_wp2_with fail
  refine (hb _).mono ?_
  rintro e w2 ⟨rfl, hb2⟩
  have hw2 := hb1.trans (hb2.mono hb1.size)
  clear hb hb1 hb2
  have Hat := Lib.hid hat
  clear hat
  go_wp2_with fail
  obtain ⟨w3, hw3⟩ : ∃ w3, w3 = (w2.alloc (.cells #[.int .i64 1, .int .u64 (word S 0), .int .u64 (word S 1), .int .u64 (word S 2), .int .u64 (word S 3), .int .i64 0, .int .i64 0, .int .i64 0, .slice none 0 0,
      .int .i64 1, .int .u64 (word T 0), .int .u64 (word T 1), .int .u64 (word T 2), .int .u64 (word T 3), .int .i64 0, .int .i64 0, .int .i64 0, .slice none 0 0] 27)).alloc (.cells #[.int .i64 2, .int .u64 0, .int .u64 0, .int .u64 0, .int .u64 0, .int .i64 0, .int .i64 0, .int .i64 0, .slice (some ⟨w2.heap.size, 0, none⟩) 2 2] 27) := ⟨_, rfl⟩
  rw [← hw3]
  have hrow := (Below.heap_alloc (w2.alloc (.cells #[.int .i64 1, .int .u64 (word S 0), .int .u64 (word S 1), .int .u64 (word S 2), .int .u64 (word S 3), .int .i64 0, .int .i64 0, .int .i64 0, .slice none 0 0,
      .int .i64 1, .int .u64 (word T 0), .int .u64 (word T 1), .int .u64 (word T 2), .int .u64 (word T 3), .int .i64 0, .int .i64 0, .int .i64 0, .slice none 0 0] 27)) (.cells #[.int .i64 2, .int .u64 0, .int .u64 0, .int .u64 0, .int .u64 0, .int .i64 0, .int .i64 0, .int .i64 0, .slice (some ⟨w2.heap.size, 0, none⟩) 2 2] 27) w2.heap.size (by simp)).trans (World.alloc_heap_new w2 _)
  have hbox := World.alloc_heap_new (w2.alloc (.cells #[.int .i64 1, .int .u64 (word S 0), .int .u64 (word S 1), .int .u64 (word S 2), .int .u64 (word S 3), .int .i64 0, .int .i64 0, .int .i64 0, .slice none 0 0,
      .int .i64 1, .int .u64 (word T 0), .int .u64 (word T 1), .int .u64 (word T 2), .int .u64 (word T 3), .int .i64 0, .int .i64 0, .int .i64 0, .slice none 0 0] 27)) (.cells #[.int .i64 2, .int .u64 0, .int .u64 0, .int .u64 0, .int .u64 0, .int .i64 0, .int .i64 0, .int .i64 0, .slice (some ⟨w2.heap.size, 0, none⟩) 2 2] 27)
  rw [← hw3] at hrow hbox
  rw [World.size_alloc] at hbox
  have hs3 : w3.heap.size = w2.heap.size + 2 := by rw [hw3]; simp
  have hb3 : Below w.heap.size w w3 := by rw [hw3]; exact (hw2.alloc hw2.size _).alloc (by have := hw2.size; simp; omega) _
  have hat3 : ∀ w', Below w3.heap.size w3 w' → Nd.at w' nodeAB _ := fun w' h => Hat.out w' w2.heap.size (block_below hrow h (by omega))
  have hcell : ∀ w', Below w3.heap.size w3 w' → ∀ q, w'.cell? ⟨w2.heap.size + 1, q, none⟩ = (#[.int .i64 2, .int .u64 0, .int .u64 0, .int .u64 0, .int .u64 0, .int .i64 0, .int .i64 0, .int .i64 0, .slice (some ⟨w2.heap.size, 0, none⟩) 2 2] : Array Value)[q]? := fun w' h => cells_at (block_below hbox h (by omega))
  clear hw3 hrow hbox hs3
  have hsz := size_walk (hat3 w3 (Below.refl _ _))
  rw [f1] at hsz
  refine hsz.mono ?_
  clear hsz
  rintro e w4 ⟨rfl, hb4⟩
  have hc4 := hcell w4 hb4
  have hdp := Depth_any (hat3 w4 hb4)
  rw [f2] at hdp
  have Hat3 := Lib.hid hat3
  have Hcell := Lib.hid hcell
  have Hb4 := Lib.hid hb4
  clear hat3 hcell hb4
  go_wp2_with fail
  refine hdp.mono ?_
  clear hdp hc4
  rintro e w5 ⟨rfl, hb5⟩
  have Hb5 := Lib.hid (Hb4.out.trans (hb5.mono Hb4.out.size))
  have hc5 := Hcell.out w5 Hb5.out
  have hgd := good_walk false false 0 (Hat3.out w5 Hb5.out)
  rw [f3] at hgd
  clear hb5
  go_wp2_with fail
  refine hgd.mono ?_
  clear hgd hc5
  rintro e w6 ⟨rfl, hb6⟩
  have Hb6 := Lib.hid (Hb5.out.trans (hb6.mono Hb5.out.size))
  have hc6 := Hcell.out w6 Hb6.out
  have hst := sets_walk (Hat3.out w6 Hb6.out)
  have f4' := f4
  generalize accN (nodeAB.pre.take 100000) [] = L at hst f4'
  clear hb6 f1 f2 f3 f4
  go_wp2_with fail
  refine hst.mono ?_
  clear hst hc6
  rintro e w7 ⟨a, cap, rfl, _, hb7, _⟩
  have Hb7 := Lib.hid (Hb6.out.trans (hb7.mono Hb6.out.size))
  rw [f4']
  clear hb7 f4'
  go_wp2_with fail
  go_ret
  exact ⟨rfl, hb3.trans (Hb7.out.mono hb3.size)⟩
end Go.Proofs.Ytaanhijjhllckaa
