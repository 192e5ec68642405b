/- A strings.Builder that the call has made, written: copyCheck, WriteByte, WriteString, String; what each leaves alone. -/
import Derived.Test.YtblgjcolmaidlaaTokenNats
import Derived.Test.YtblgjcolmaidlaaText
import Derived.Lib.Builder
import Derived.Lib.AppendStr
import Derived.Lib.UnsafeStr
import Derived.RangeFuncRecord
namespace Go.Proofs.Ytblgjcolmaidlaa
set_option maxRecDepth 100000
open Go.RowKit

/-- block b is a builder, of the call's own (from B on), that holds the bytes l; v: its buffer -/
def Bld (w : World) (B b : Nat) (l : List Nat) (v : Value) : Prop :=
  B ≤ b ∧ (∃ p, (p = .pointer none ∨ p = .pointer (some ⟨b, 0, none⟩)) ∧ w.heap[b]? = some (.cells #[p, v] 46 (0, 0))) ∧ w.ownsRow B 5 1 v l.length (l.map u8v)
/-- what a write leaves alone: what lies below B, and each block but b and the buffer's; the buffer stays or is new -/
structure Wrote (B b : Nat) (w : World) (v : Value) (w' : World) (v' : Value) : Prop where
  below : Below B w w'
  keep : ∀ k, k < w.heap.size → k ≠ b → v.ownBlock ≠ some k → w'.heap[k]? = w.heap[k]?
  fresh : v'.ownBlock = v.ownBlock ∨ ∃ g, v'.ownBlock = some g ∧ w.heap.size ≤ g
theorem Wrote.refl (B b : Nat) (w : World) (v : Value) : Wrote B b w v w v := ⟨Below.refl _ _, fun _ _ _ _ => rfl, .inl rfl⟩
theorem Wrote.own {B b : Nat} {w w' : World} {v v' : Value} (h : Wrote B b w v w' v') {k : Nat} (hk : k < w.heap.size) (hv : v.ownBlock ≠ some k) : v'.ownBlock ≠ some k := by
  rcases h.fresh with e | ⟨g, e, hg⟩
  · rw [e]; exact hv
  · rw [e]; intro e2; injection e2 with e2; omega
theorem Wrote.trans {B b : Nat} {w w1 w2 : World} {v v1 v2 : Value} (h : Wrote B b w v w1 v1) (h' : Wrote B b w1 v1 w2 v2) : Wrote B b w v w2 v2 := by
  refine ⟨h.below.trans h'.below, fun k hk hb hv => ?_, ?_⟩
  · rw [h'.keep k (Nat.lt_of_lt_of_le hk h.below.size) hb (h.own hk hv), h.keep k hk hb hv]
  · rcases h'.fresh with e | ⟨g, e, hg⟩
    · rw [e]; exact h.fresh
    · exact .inr ⟨g, e, Nat.le_trans h.below.size hg⟩
theorem Wrote.later {B b : Nat} {w w' : World} (v : Value) (h : Below w.heap.size w w') (hB : B ≤ w.heap.size) : Wrote B b w v w' v :=
  ⟨h.mono hB, fun k hk _ _ => h.block k hk, .inl rfl⟩
theorem Wrote.alloc {B b : Nat} {w : World} (v : Value) (hB : B ≤ w.heap.size) (o : Obj) : Wrote B b w v (w.alloc o) v := Wrote.later v ((Below.refl _ _).alloc (Nat.le_refl _) o) hB
theorem Bld.lt {w : World} {B b : Nat} {l : List Nat} {v : Value} (h : Bld w B b l v) : b < w.heap.size := by
  obtain ⟨_, ⟨p, _, hb⟩, _⟩ := h
  exact lt_of_block hb
theorem Bld.ownLt {w : World} {B b : Nat} {l : List Nat} {v : Value} (h : Bld w B b l v) {k : Nat} (hk : w.heap.size ≤ k) : v.ownBlock ≠ some k := by
  intro e; have := h.2.2.lt k e; omega
theorem Bld.ownNe {w : World} {B b : Nat} {l : List Nat} {v : Value} (h : Bld w B b l v) : v.ownBlock ≠ some b := by
  obtain ⟨_, ⟨p, _, hb⟩, ho⟩ := h
  exact Lib.ownBlock_ne ho hb (by decide)
/-- no block of another type is the buffer's -/
theorem Bld.ownKind {w : World} {B b : Nat} {l : List Nat} {v : Value} (h : Bld w B b l v) {k : Nat} {cs : Array Value} {T : TypeId} {fr : Nat × Nat} (hk : w.heap[k]? = some (.cells cs T fr)) (hT : T ≠ 5) : v.ownBlock ≠ some k := Lib.ownBlock_ne h.2.2 hk hT
theorem Bld.later {w w' : World} {B b : Nat} {l : List Nat} {v : Value} (h : Bld w B b l v) (hb : Below w.heap.size w w') : Bld w' B b l v := by
  have hlt := h.lt
  obtain ⟨h1, ⟨p, hp, hb2⟩, ho⟩ := h
  exact ⟨h1, ⟨p, hp, (hb.block b hlt).trans hb2⟩, owns_below ho hb⟩
theorem Bld.alloc {w : World} {B b : Nat} {l : List Nat} {v : Value} (h : Bld w B b l v) (o : Obj) : Bld (w.alloc o) B b l v := h.later ((Below.refl _ _).alloc (Nat.le_refl _) o)
theorem bld_fresh (w : World) : Bld (w.alloc (.cells #[.pointer none, .slice none 0 0] 46)) w.heap.size w.heap.size [] (.slice none 0 0) :=
  ⟨Nat.le_refl _, ⟨_, .inl rfl, World.alloc_heap_new w _⟩, World.ownsRow_nil _ _ _ _⟩
theorem bld_cells {l : List Nat} (h : ∀ x ∈ l, x < 256) : Lib.byteCells (toBytes l) = l.map u8v := by
  unfold Lib.byteCells toBytes
  rw [List.map_map]
  refine List.map_congr_left fun x hx => ?_
  have := h x hx
  simp [u8v, Nat.mod_eq_of_lt this]
theorem Bld.is {w : World} {B b : Nat} {l : List Nat} {v : Value} (h : Bld w B b l v) (hl : ∀ x ∈ l, x < 256) : Lib.IsBuilder 46 5 B b (Lib.byteCells (toBytes l)) w := by
  have hne := h.ownNe
  obtain ⟨h1, ⟨p, hp, hb⟩, ho⟩ := h
  rw [bld_cells hl]
  have ho' : w.ownsRow B 5 1 v (l.map u8v).length (l.map u8v) := by rw [List.length_map]; exact ho
  rcases hp with rfl | rfl
  · exact .inl ⟨h1, v, hb, ho', hne⟩
  · exact .inr ⟨h1, v, hb, ho', hne⟩
/-- the bytes, as a string -/
theorem bld_string (B b : Nat) (l : List Nat) (v : Value) (w : World) (h : Bld w B b l v) (hl : ∀ x ∈ l, x < 256) (hB : B ≤ w.heap.size) :
    Calls Try.prog 22 #[.pointer (some ⟨b, 0, none⟩)] w fun e w' => e = .returned (.string ⟨(toBytes l).toArray⟩) ∧ Below B w w' :=
  Try.Builder_String_any B b (toBytes l) w (h.is hl) hB
theorem info_builder : (Try.prog.info? 46).map (·.size) = some 2 := by kernel_rfl
theorem lies_builder : liesAt Try.prog Try.prog.depth 46 (2 / Try.prog.cellsOf 46) 0 46 1 = true := by kernel_rfl
/-- behind copyCheck the builder knows its own place -/
theorem copy_check (B b : Nat) (l : List Nat) (v : Value) (w : World) (h : Bld w B b l v) :
    Calls Try.prog 27 #[.pointer (some ⟨b, 0, none⟩)] w fun e w' => e = .returned (.tuple #[]) ∧ Bld w' B b l v ∧ Wrote B b w v w' v ∧ w'.heap[b]? = some (.cells #[.pointer (some ⟨b, 0, none⟩), v] 46 (0, 0)) := by
  obtain ⟨j, hj, hjs⟩ := Option.map_eq_some_iff.1 info_builder
  have hne := h.ownNe
  obtain ⟨h1, ⟨p, hp, hb⟩, ho⟩ := h
  have hfz : w.frozen? ⟨b, 0, none⟩ = false := Lib.frozen_of_heap hb 0
  have hsh : w.shape? b = some (46, 2) := by simp [World.shape?, hb]
  have h0 : w.cell? ⟨b, 0, none⟩ = some p := by rw [Lib.cell_of_heap hb]; rfl
  rcases hp with rfl | rfl
  · have hb' : (w.setCell ⟨b, 0, none⟩ (.pointer (some ⟨b, 0, none⟩))).heap[b]? = some (.cells #[.pointer (some ⟨b, 0, none⟩), v] 46 (0, 0)) := by
      simp [World.setCell, Array.getElem?_modify, hb]
    have ho' : (w.setCell ⟨b, 0, none⟩ (.pointer (some ⟨b, 0, none⟩))).ownsRow B 5 1 v l.length (l.map u8v) :=
      ho.kept (row := some b) ⟨rfl, rfl, rfl, by simp [World.setCell], fun k _ hk => Below.heap_setCell _ _ _ _ (fun e => hk (by simp [e]))⟩ (.inr hne)
    have hw : Wrote B b w v (w.setCell ⟨b, 0, none⟩ (.pointer (some ⟨b, 0, none⟩))) v :=
      ⟨(Below.refl B w).setCell (p := ⟨b, 0, none⟩) h1 _, fun k _ hk _ => Below.heap_setCell _ _ _ _ hk, .inl rfl⟩
    have hfin := Lib.hid (And.intro (show Bld (w.setCell ⟨b, 0, none⟩ (.pointer (some ⟨b, 0, none⟩))) B b l v from ⟨h1, ⟨_, .inr rfl, hb'⟩, ho'⟩) (And.intro hw hb'))
    clear ho ho' hw hb' hne hb
    go_enter Try.func27, Try.ntmps27
    go_wp2
    rw [Lib.run_to_unsafe w ⟨b, 0, none⟩ Try.underlying43 Try.underlying54 hj (by rw [hjs]; decide) hsh (Nat.zero_lt_succ 1)]
    simp only [Result.andThen]
    rw [Oper.upon_value]
    go_wp2
    rw [run_callFunc_extern Try.func28 (by kernel_rfl) (by kernel_rfl) (by kernel_rfl) (e := Extern.AbiNoEscape.same) (by kernel_rfl)]
    rw [Lib.run_noEscape]
    simp only [Result.andThen]
    rw [Oper.upon_value]
    go_wp2
    rw [Lib.run_from_unsafe w ⟨b, 0, none⟩ Try.underlying54 Try.underlying43 hj hsh lies_builder]
    simp only [Result.andThen]
    rw [Oper.upon_value]
    go_wp2
    go_end0
    exact ⟨rfl, hfin.out⟩
  · have hfin := Lib.hid (And.intro (show Bld w B b l v from ⟨h1, ⟨_, .inr rfl, hb⟩, ho⟩) (And.intro (Wrote.refl B b w v) hb))
    clear ho hne hb
    go_enter Try.func27, Try.ntmps27
    go_wp2
    rw [Lib.run_neq_ptr_same w _ Try.underlying43 hj]
    go_wp2
    go_end0
    exact ⟨rfl, hfin.out⟩
/-- append of bytes: the buffer stays where it is, or is a new block -/
theorem append_fresh {w : World} {B n m c : Nat} {v : Value} {xs news : List Value} {ad : Addr} (hown : w.ownsRow B 5 1 v n xs) (hl : news.length = m) (h0 : m ≠ 0) (hnews : ∀ j u, news[j]? = some u → w.cell? (ad.add j) = some u) (h1 : ∀ u ∈ news, u.oneCell' = true)
    (hn : n + m ≤ 140737488355328) (hB : B ≤ w.heap.size) (ty : TypeId) :
    ∃ v' w', (Builtin.append_ #[44, 44] ty #[v, .slice (some ad) m c]).run Try.prog w = .ok v' w' ∧ w'.ownsRow B 5 1 v' (n + m) (xs ++ news) ∧ w.grownBy w' v.ownBlock ∧ (v'.ownBlock = v.ownBlock ∨ ∃ g, v'.ownBlock = some g ∧ w.heap.size ≤ g) := by
  obtain ⟨i0, hi, hz0, hz1, hz2⟩ := info_parts info_u8
  obtain ⟨v', w', hr, h2, h3, _⟩ := run_append_own (P := Try.prog) w B 44 ty 5 i0 (.int .u8 0) 1 1 Try.underlying44 hi hz0 hz1 hz2 rfl (by decide) v n xs hown ad m c news (by omega) hnews h1 (by unfold maxLen; omega) (by omega) hB
  refine ⟨v', w', hr, h2, h3, ?_⟩
  rcases hown.2 with ⟨rfl, rfl⟩ | ⟨g, cap, cur, rfl, _, hg, hnc, hcm, hcs, _⟩
  · have hr2 := run_append_nil (P := Try.prog) w 44 ty 5 i0 (.int .u8 0) Try.underlying44 hi hz0 ad m c news (by rw [hz1]; omega) hnews (by omega) (by omega) (by rw [hz2]; omega)
    rw [hr] at hr2
    injection hr2 with e _
    rw [e]
    exact .inr ⟨_, rfl, Nat.le_refl _⟩
  · by_cases hroom : n + m ≤ cap
    · have hr2 := run_append_room (P := Try.prog) w 44 ty 5 i0 Try.underlying44 hi g n cap cur hg ad m c news (by rw [hz1]; omega) hnews h1 hroom (by rw [hz1, hl, hcs]; omega)
      rw [hr] at hr2
      injection hr2 with e _
      rw [e]
      exact .inl rfl
    · have hr2 := run_append_grow (P := Try.prog) w 44 ty 5 i0 (.int .u8 0) Try.underlying44 hi hz0 ⟨g, 0, none⟩ n cap xs (by rw [hown.1, hz1]) (hown.cells (g := g) rfl) ad m c news (by rw [hz1]; omega) hnews (by omega) (by omega) (growslice_fits (by omega) (by rw [hz2]; omega))
      rw [hr] at hr2
      injection hr2 with e _
      rw [e]
      exact .inr ⟨_, rfl, Nat.le_refl _⟩
theorem append_fresh_string {w : World} {B n : Nat} {v : Value} {xs : List Value} (s : ByteArray) (hown : w.ownsRow B 5 1 v n xs) (hn : n + s.size ≤ 140737488355328) (hB : B ≤ w.heap.size) (ty : TypeId) :
    ∃ v' w', (Builtin.append_ #[44, 9] ty #[v, .string s]).run Try.prog w = .ok v' w' ∧ w'.ownsRow B 5 1 v' (n + s.size) (xs ++ Lib.strCells s) ∧ w.grownBy w' v.ownBlock ∧ (v'.ownBlock = v.ownBlock ∨ ∃ g, v'.ownBlock = some g ∧ w.heap.size ≤ g) := by
  obtain ⟨i0, hi, hz0, hz1, hz2⟩ := info_parts info_u8
  obtain ⟨v', w', hr, h2, h3, h4⟩ := Lib.run_append_own_string (P := Try.prog) w B 44 9 ty 5 i0 Try.underlying44 Try.underlying9 hi hz0 hz1 hz2 v n xs hown s (by unfold maxLen; omega) hn hB
  refine ⟨v', w', hr, h2, h3, ?_⟩
  rcases hown.2 with ⟨rfl, rfl⟩ | ⟨g, cap, cur, rfl, _, hg, hnc, hcm, hcs, _⟩
  · by_cases h0 : s.size = 0
    · rw [h4.2 ⟨rfl, h0⟩]; exact .inl rfl
    · have hr2 := run_append_nil_string (P := Try.prog) w 44 9 ty 5 i0 (.int .u8 0) Try.underlying44 Try.underlying9 hi hz0 s (by omega) (by omega) (by rw [hz2]; omega)
      rw [hr] at hr2
      injection hr2 with e _
      rw [e]
      exact .inr ⟨_, rfl, Nat.le_refl _⟩
  · by_cases hroom : n + s.size ≤ cap
    · have hr2 := Lib.run_append_room_string (P := Try.prog) w 44 9 ty 5 i0 Try.underlying44 Try.underlying9 hi hz1 g n cap cur hg s hroom (by omega)
      rw [hr] at hr2
      injection hr2 with e _
      rw [e]
      exact .inl rfl
    · have hr2 := Lib.run_append_grow_string (P := Try.prog) w 44 9 ty 5 i0 (.int .u8 0) Try.underlying44 Try.underlying9 hi hz0 ⟨g, 0, none⟩ n cap xs (by rw [hown.1, hz1]) (hown.cells (g := g) rfl) s (by omega) (by omega) (growslice_fits (by omega) (by rw [hz2]; omega))
      rw [hr] at hr2
      injection hr2 with e _
      rw [e]
      exact .inr ⟨_, rfl, Nat.le_refl _⟩
/-- the two as steps of a walk -/
theorem wpList_append_byte {ops : Array Oper} {rest : List Oper} {o : Oper} {a : Act} {w : World} {Q : Exit → Act → World → Prop} (hgd : o.guard = none) (s x : Operand)
    (ho : o.op = .call { callee := .builtin .append, args := #[s, x], argTypes := #[44, 44] }) (B n c : Nat) (v : Value) (xs : List Value) (ad : Addr) (z : Nat) (hs : a.eval s = v) (hx : a.eval x = .slice (some ad) 1 c)
    (hown : w.ownsRow B 5 1 v n xs) (hz : w.cell? ad = some (u8v z)) (hn : n + 1 ≤ 140737488355328) (hB : B ≤ w.heap.size)
    (h : ∀ v' w', w'.ownsRow B 5 1 v' (n + 1) (xs ++ [u8v z]) → w.grownBy w' v.ownBlock → (v'.ownBlock = v.ownBlock ∨ ∃ g, v'.ownBlock = some g ∧ w.heap.size ≤ g) → wpList Try.prog ops Q rest (a.put o.dst v') w') : wpList Try.prog ops Q (o :: rest) a w := by
  obtain ⟨v', w', hr, h2, h3, h4⟩ := append_fresh (c := c) (m := 1) (news := [u8v z]) (ad := ad) hown rfl (by decide) (fun j u hj => by
    match j, hj with
    | 0, hj => simp at hj; subst hj; have e : ad.add 0 = ad := by cases ad; simp [Addr.add]
               rw [e]; exact hz) (fun u hu => by simp at hu; subst hu; rfl) hn hB o.type
  refine wpList_plain hgd fun _ hK => ?_
  unfold Oper.wp execOp
  simp only [ho, resolve, invoke, builtin, Sem.run_bind, Sem.run_pure, Result.andThen_ok, List.map_toArray, List.map_cons, List.map_nil, hs, hx, hr]
  exact hK _ _ (h v' w' h2 h3 h4)
theorem wpList_append_text {ops : Array Oper} {rest : List Oper} {o : Oper} {a : Act} {w : World} {Q : Exit → Act → World → Prop} (hgd : o.guard = none) (s x : Operand)
    (ho : o.op = .call { callee := .builtin .append, args := #[s, x], argTypes := #[44, 9] }) (B n : Nat) (v : Value) (xs : List Value) (t : ByteArray) (hs : a.eval s = v) (hx : a.eval x = .string t)
    (hown : w.ownsRow B 5 1 v n xs) (hn : n + t.size ≤ 140737488355328) (hB : B ≤ w.heap.size)
    (h : ∀ v' w', w'.ownsRow B 5 1 v' (n + t.size) (xs ++ Lib.strCells t) → w.grownBy w' v.ownBlock → (v'.ownBlock = v.ownBlock ∨ ∃ g, v'.ownBlock = some g ∧ w.heap.size ≤ g) → wpList Try.prog ops Q rest (a.put o.dst v') w') : wpList Try.prog ops Q (o :: rest) a w := by
  obtain ⟨v', w', hr, h2, h3, h4⟩ := append_fresh_string t hown hn hB o.type
  refine wpList_plain hgd fun _ hK => ?_
  unfold Oper.wp execOp
  simp only [ho, resolve, invoke, builtin, Sem.run_bind, Sem.run_pure, Result.andThen_ok, List.map_toArray, List.map_cons, List.map_nil, hs, hx, hr]
  exact hK _ _ (h v' w' h2 h3 h4)
theorem owns_form2 {w : World} {base : Nat} {e : TypeId} {size : Nat} {v : Value} {n : Nat} {xs : List Value} (h : w.ownsRow base e size v n xs) : ∃ a cap, v = .slice a n cap := owns_form h
/-- the new buffer in its place -/
theorem wrote_end {B b : Nat} {w w1 w2 : World} {l m : List Nat} {p v v' : Value} (hp : p = .pointer (some ⟨b, 0, none⟩)) (hw1 : Wrote B b w v w1 v) (h1 : Bld w1 B b l v) (hb1 : w1.heap[b]? = some (.cells #[p, v] 46 (0, 0)))
    (ho : w2.ownsRow B 5 1 v' m.length (m.map u8v)) (hg : w1.grownBy w2 v.ownBlock) (hf : v'.ownBlock = v.ownBlock ∨ ∃ g, v'.ownBlock = some g ∧ w1.heap.size ≤ g) (hB : B ≤ w1.heap.size) :
    Bld (w2.setCell ⟨b, 1, none⟩ v') B b m v' ∧ Wrote B b w v (w2.setCell ⟨b, 1, none⟩ v') v' := by
  have hlt := h1.lt
  have hb2 : w2.heap[b]? = some (.cells #[p, v] 46 (0, 0)) := (hg.block b hlt (fun e => h1.ownNe e.symm)).trans hb1
  have hput := Lib.BuilderAt.put (T := 46) (e := 5) (p := p) (bs' := m.map u8v) h1.1 hb2 (by rw [List.length_map]; exact ho) (by decide)
  refine ⟨?_, hw1.trans ⟨?_, fun k hk hkb hv => ?_, hf⟩⟩
  · obtain ⟨k1, v2, k2, k3, _⟩ := hput
    have e : (w2.setCell ⟨b, 1, none⟩ v').heap[b]? = some (.cells #[p, v'] 46 (0, 0)) := by simp [World.setCell, Array.getElem?_modify, hb2]
    rw [e] at k2
    injection k2 with k2
    injection k2 with k2 _ _
    have k2 : v' = v2 := by simpa using k2
    subst k2
    rw [List.length_map] at k3
    exact ⟨k1, ⟨p, .inr hp, e⟩, k3⟩
  · exact ((Below.refl B w1).grown hg hB (fun k hk => (h1.2.2.lt k hk).1)).setCell (p := ⟨b, 1, none⟩) h1.1 _
  · rw [Below.heap_setCell _ _ _ _ hkb, hg.block k hk (fun e => hv e.symm)]
theorem write_byte (B b : Nat) (l : List Nat) (v : Value) (z : Nat) (w : World) (h : Bld w B b l v) (hl : l.length + 1 ≤ 140737488355328) (hB : B ≤ w.heap.size) :
    Calls Try.prog 25 #[.pointer (some ⟨b, 0, none⟩), .int .u8 z] w fun e w' => e = .returned .nilIface ∧ ∃ v', Bld w' B b (l ++ [z]) v' ∧ Wrote B b w v w' v' := by
  go_enter Try.func25, Try.ntmps25
  go_wp2_with (go_at_call 27; refine (copy_check B b l v _ h).mono ?_)
  rintro e w1 ⟨rfl, h1, hw1, hb1⟩
  obtain ⟨a0, cap0, rfl⟩ := owns_form h1.2.2
  have c0 : w1.cell? ⟨b, 0, none⟩ = some (.pointer (some ⟨b, 0, none⟩)) := by rw [Lib.cell_of_heap hb1]; rfl
  have c1 : w1.cell? ⟨b, 1, none⟩ = some (.slice a0 l.length cap0) := by rw [Lib.cell_of_heap hb1]; rfl
  have hB1 : B ≤ w1.heap.size := Nat.le_trans hB hw1.below.size
  have hlt := h1.lt
  have HW1 := Lib.hid hw1
  have H1 := Lib.hid h1
  have Hb1 := Lib.hid hb1
  clear hw1 h1 hb1 h
  go_wp2_with (at_builtin; refine wpList_append_byte rfl _ _ rfl B l.length 1 _ (l.map u8v) ⟨w1.heap.size, 0, none⟩ z rfl rfl (H1.out.alloc _).2.2 (by simp [u8v]) hl (by simp; omega) ?_)
  intro v' w2 ho hg hf
  have hw2 : Wrote B b w (.slice a0 l.length cap0) (w1.alloc (.cells #[.int .u8 z] 5)) (.slice a0 l.length cap0) := HW1.out.trans (Wrote.alloc _ hB1 _)
  have hend := wrote_end (m := l ++ [z]) rfl hw2 (H1.out.alloc _) ((Below.heap_alloc w1 _ b hlt).trans Hb1.out) (by simpa using ho) hg (by simpa using hf) (by simp; omega)
  have hb2 : w2.heap[b]? = some (.cells #[.pointer (some ⟨b, 0, none⟩), .slice a0 l.length cap0] 46 (0, 0)) := (hg.block b (by simp; omega) (fun e => H1.out.ownNe e.symm)).trans ((Below.heap_alloc w1 _ b hlt).trans Hb1.out)
  have d1 : w2.cell? ⟨b, 1, none⟩ = some (.slice a0 l.length cap0) := by rw [Lib.cell_of_heap hb2]; rfl
  have f1 : w2.frozen? ⟨b, 1, none⟩ = false := Lib.frozen_of_heap hb2 1
  obtain ⟨a', cap', rfl⟩ := owns_form ho
  have Hend := Lib.hid hend
  clear hw2 hend hg hf ho hb2
  go_wp2
  go_ret
  exact ⟨rfl, _, Hend.out⟩
theorem strCells_nats (s : ByteArray) : Lib.strCells s = (nats s).map u8v := by
  unfold Lib.strCells nats
  rw [List.map_map]
  rfl
end Go.Proofs.Ytblgjcolmaidlaa
