/- The walk of law 4's awake. -/
import Derived.Test.YthppkaohmdnjcaaTokenEq
import Derived.Test.YthppkaohmdnjcaaEager
namespace Go.Proofs.Ythppkaohmdnjcaa
open Go.RowKit
def bA : BitVec 256 := oneByte 97
theorem awake_cut : cutAll cls (nats ⟨#[97, 123, 50, 44, 125]⟩) = (none, [(⟨1, bA, 0, 0⟩, 0), (⟨6, 0, 2, -1⟩, 1)]) := by rfl
/-- two tokens, in memory -/
theorem toks_two {w : World} {v : Value} {p q : Tok × Nat} (h : ToksAt w v [p, q]) : ∃ g cap, v = .slice (some ⟨g, 0, none⟩) 2 cap ∧ 2 ≤ cap ∧ g < w.heap.size ∧ Tok8 w g 0 p.1 (p.2 : Nat) ∧ Tok8 w g 8 q.1 (q.2 : Nat) := by
  obtain ⟨a, cap, e, h⟩ := h
  rcases h with h | ⟨g, e1, e2, e3, e4⟩
  · cases h
  · exact ⟨g, cap, by rw [e, e1]; rfl, e2, e3, e4 0 (by simp), e4 1 (by simp)⟩
theorem quiet_load_tokV {o : Oper} {a : Act} {C : World → Prop} {K : Act → Prop} (x : Operand) (ho : o.op = .load 39 x) (b off : Nat) (t : Tok) (at_ : Int) (V : Value) (hV : tokV t at_ = V) (hx : a.eval x = .pointer (some ⟨b, off, none⟩))
    (h : ∀ w, C w → Tok8 w b off t at_) (hK : K (a.put o.dst V)) : o.quiet Try.prog a C K := by
  subst hV; exact quiet_load_tok x ho b off t at_ hx h hK
theorem toks_one {w : World} {v : Value} {p : Tok × Nat} (h : ToksAt w v [p]) : ∃ g cap, v = .slice (some ⟨g, 0, none⟩) 1 cap ∧ 1 ≤ cap ∧ g < w.heap.size ∧ Tok8 w g 0 p.1 (p.2 : Nat) := by
  obtain ⟨a, cap, e, h⟩ := h
  rcases h with h | ⟨g, e1, e2, e3, e4⟩
  · cases h
  · exact ⟨g, cap, by rw [e, e1]; rfl, e2, e3, e4 0 (by simp)⟩
set_option maxHeartbeats 4000000 in
theorem awake4_any (w : World) (hm : MaxAt w) : Calls Try.prog 7 #[] w fun e w' => e = .returned (.bool true) ∧ Below w.heap.size w w' := by
  have hcut := cut_good ⟨#[97, 123, 50, 44, 125]⟩ (by decide) _ awake_cut
  have hof := fun (a : Option Addr) (cap : Nat) (w : World) h => of_any a 1 cap [97] w h
  rw [show setOf [97] = bA from rfl] at hof
  have heq0 : ∀ w, (Op.equalIn 10000 39 (.agg #[.int .i64 1, .int .u64 (word bA 0), .int .u64 (word bA 1), .int .u64 (word bA 2), .int .u64 (word bA 3), .int .i64 0, .int .i64 0, .int .i64 0]) (.agg #[.int .i64 1, .int .u64 (word bA 0), .int .u64 (word bA 1), .int .u64 (word bA 2), .int .u64 (word bA 3), .int .i64 0, .int .i64 0, .int .i64 0])).run Try.prog w = .ok true w := fun w => eql_tok ⟨1, bA, 0, 0⟩ 0 w
  have heq1 : ∀ w, (Op.equalIn 10000 39 (.agg #[.int .i64 6, .int .u64 0, .int .u64 0, .int .u64 0, .int .u64 0, .int .i64 2, .int .i64 (-1), .int .i64 1]) (.agg #[.int .i64 6, .int .u64 0, .int .u64 0, .int .u64 0, .int .u64 0, .int .i64 2, .int .i64 (-1), .int .i64 1])).run Try.prog w = .ok true w := fun w => by have := eql_tok ⟨6, 0, 2, -1⟩ 1 w; simp only [tokV, word_zero] at this; exact this
  generalize bA = A at *
  go_enter Try.func7, Try.ntmps7
  go_wp2_with fail
  refine (hcut _ hm).mono ?_
  rintro e w1 ⟨v, rfl, ht, hb1⟩
  obtain ⟨g, cap, rfl, hcap, hg, ht0, ht1⟩ := toks_two ht
  have hl0 : ∀ w', (∃ L : Later w1, w' = L.val) → Tok8 w' g 0 ⟨1, A, 0, 0⟩ 0 := fun w' hw' => by obtain ⟨L, rfl⟩ := hw'; exact ht0.below L.ok hg
  have hl1 : ∀ w', (∃ L : Later w1, w' = L.val) → Tok8 w' g 8 ⟨6, 0, 2, -1⟩ 1 := fun w' hw' => by obtain ⟨L, rfl⟩ := hw'; exact ht1.below L.ok hg
  clear ht ht0 ht1 hcut
  go_wp2_with fail
  have hne := Later.nonempty w1
  refine wp_region_eager (.plain 0 (.plain 1 (.plain 2 (.plain 3 (.plain 4 (.plain 5 (.plain 6 (.plain 7 (.plain 8 (.plain 9 (.plain 10 (.plain 11 (.plain 12 (.plain 13 (.plain 14 (.sole 15 (.sole 16 (.plain 17 (.plain 18 (.plain 19 (.plain 20 (.plain 21 (.plain 22 (.plain 23 (.plain 24 (.plain 25 (.plain 26 (.plain 27 .done)))))))))))))))))))))))))))) (W0 := w1) (Below.refl _ _) (by kernel_rfl) (by kernel_rfl) (fun c a d v w h => by cases d <;> exact h) ?_
  have hcur := (Below.refl w1.heap.size w1).drew
  repeat (first
      | (refine' eager_skip ?_ ?_ ?_
         rotate_left 1
         · simp only [List.getElem?_toArray, List.getElem?_cons_zero, List.getElem?_cons_succ]; exact rfl
         · exact rfl
         simp only [Act.put, List.setIfInBounds_toArray, List.set_cons_zero, List.set_cons_succ])
      | (refine' eager_want ?_ ?_ (fun K hK => ?_)
         rotate_left 1
         · simp only [List.getElem?_toArray, List.getElem?_cons_zero, List.getElem?_cons_succ]; exact rfl
         · exact rfl
         first
         | (refine quiet_load_tokV _ rfl g 0 ⟨1, A, 0, 0⟩ 0 (.agg #[.int .i64 1, .int .u64 (word A 0), .int .u64 (word A 1), .int .u64 (word A 2), .int .u64 (word A 3), .int .i64 0, .int .i64 0, .int .i64 0]) rfl rfl hl0 ?_; refine hK _ ?_; clear hK K; try simp only [Act.put, List.setIfInBounds_toArray, List.set_cons_zero, List.set_cons_succ])
         | (refine quiet_load_tokV _ rfl g 8 ⟨6, 0, 2, -1⟩ 1 (.agg #[.int .i64 6, .int .u64 0, .int .u64 0, .int .u64 0, .int .u64 0, .int .i64 2, .int .i64 (-1), .int .i64 1]) (by simp only [tokV, word_zero]; rfl) rfl hl1 ?_; refine hK _ ?_; clear hK K; try simp only [Act.put, List.setIfInBounds_toArray, List.set_cons_zero, List.set_cons_succ])
         | (go_big_quiet_op; refine hK _ ?_; clear hK K)))
  refine' eager_call ?_ ?_ (fun K hK => ?_)
  rotate_left 1
  · simp only [List.getElem?_toArray, List.getElem?_cons_zero, List.getElem?_cons_succ]; exact rfl
  · exact rfl
  go_simp
  refine hK _ _ ((Below.refl _ _).alloc (Nat.le_refl _) _) ?_
  have B1 : BytesAt (w1.alloc (.cells #[.int .u8 97] 5)) (some ⟨w1.heap.size, 0, none⟩) 1 1 [97] := by simpa using bytes_lit w1 [97] #[.int .u8 97] rfl (by decide) (by decide)
  replace hcur := hcur.alloc hcur.size (.cells #[.int .u8 97] 5)
  clear hK K
  try simp only [Act.put, List.setIfInBounds_toArray, List.set_cons_zero, List.set_cons_succ]
  have B2 : BytesAt (w1.alloc (.cells #[.int .u8 97] 5)).drew (some ⟨w1.heap.size, 0, none⟩) 1 1 [97] := B1
  refine' eager_call ?_ ?_ (fun K hK => ?_)
  rotate_left 1
  · simp only [List.getElem?_toArray, List.getElem?_cons_zero, List.getElem?_cons_succ]; exact rfl
  · exact rfl
  go_simp
  refine (hof _ _ _ B2).mono ?_
  rintro e wn ⟨rfl, hb⟩
  refine hK _ _ hb ?_
  replace hcur := hcur.trans (hb.mono hcur.size)
  clear hb hK K
  try simp only [Act.put, List.setIfInBounds_toArray, List.set_cons_zero, List.set_cons_succ]
  repeat (first
      | (refine' eager_skip ?_ ?_ ?_
         rotate_left 1
         · simp only [List.getElem?_toArray, List.getElem?_cons_zero, List.getElem?_cons_succ]; exact rfl
         · exact rfl
         simp only [Act.put, List.setIfInBounds_toArray, List.set_cons_zero, List.set_cons_succ])
      | (refine' eager_want ?_ ?_ (fun K hK => ?_)
         rotate_left 1
         · simp only [List.getElem?_toArray, List.getElem?_cons_zero, List.getElem?_cons_succ]; exact rfl
         · exact rfl
         first
         | (refine quiet_load_tokV _ rfl g 0 ⟨1, A, 0, 0⟩ 0 (.agg #[.int .i64 1, .int .u64 (word A 0), .int .u64 (word A 1), .int .u64 (word A 2), .int .u64 (word A 3), .int .i64 0, .int .i64 0, .int .i64 0]) rfl rfl hl0 ?_; refine hK _ ?_; clear hK K; try simp only [Act.put, List.setIfInBounds_toArray, List.set_cons_zero, List.set_cons_succ])
         | (refine quiet_load_tokV _ rfl g 8 ⟨6, 0, 2, -1⟩ 1 (.agg #[.int .i64 6, .int .u64 0, .int .u64 0, .int .u64 0, .int .u64 0, .int .i64 2, .int .i64 (-1), .int .i64 1]) (by simp only [tokV, word_zero]; rfl) rfl hl1 ?_; refine hK _ ?_; clear hK K; try simp only [Act.put, List.setIfInBounds_toArray, List.set_cons_zero, List.set_cons_succ])
         | (go_big_quiet_op; refine hK _ ?_; clear hK K)))
  refine eager_done ?_
  go_wp2_with fail
  go_ret
  exact ⟨rfl, hb1.trans (hcur.mono hb1.size)⟩
end Go.Proofs.Ythppkaohmdnjcaa
