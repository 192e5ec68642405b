/- The walk of token's named: a class in a bracket. -/
import Derived.Test.YtjfenbjamlflcaaTokenNum
import Derived.Test.YtjfenbjamlflcaaText
namespace Go.Proofs.Ytjfenbjamlflcaa
set_option maxRecDepth 100000
open Go.RowKit
/-- a text of these bytes -/
def ofNats (l : List Nat) : ByteArray := ⟨(toBytes l).toArray⟩
/-- the classes by name, as class.Named tells them -/
def cls (n : List Nat) : Option (BitVec 256) := if (classOf (toBytes n)).2 then some (classOf (toBytes n)).1 else none
theorem toBytes_nat (l : List UInt8) : toBytes (l.map UInt8.toNat) = l := by
  unfold toBytes
  rw [List.map_map]
  conv => rhs; rw [← List.map_id l]
  apply List.map_congr_left
  intro x _
  simp
theorem nats_extract (s : ByteArray) (k : Nat) : nats (s.extract k s.size) = (nats s).drop k := by
  unfold nats
  rw [Lib.extract_eq, ← List.map_drop, List.take_of_length_le (by rw [List.length_drop, ← Lib.size_eq]; exact Nat.le_refl _)]
theorem nats_eq {x y : ByteArray} (h : nats x = nats y) : x = y := by
  have h1 : x.data.toList = y.data.toList := by rw [← toBytes_nat x.data.toList, ← toBytes_nat y.data.toList]; exact congrArg toBytes h
  rw [← Lib.mk_data x, ← Lib.mk_data y, h1]
/-- where the first ':]' stands -/
theorem index_class : ∀ l : List UInt8, match classEnd (l.map UInt8.toNat) with
    | none => Lib.index l [58, 93] = -1
    | some p => Lib.index l [58, 93] = p.1.length ∧ l.map UInt8.toNat = p.1 ++ 58 :: 93 :: p.2
  | [] => by simp [classEnd, Lib.index]
  | [x] => by
    simp only [List.map, classEnd, Lib.index]
    simp [List.isPrefixOf]
  | x :: y :: r => by
    have ih := index_class (y :: r)
    rw [List.map_cons, List.map_cons, classEnd]
    rw [List.map_cons] at ih
    by_cases hc : x.toNat = 58 ∧ y.toNat = 93
    · rw [if_pos hc]
      obtain ⟨h1, h2⟩ := hc
      have e1 : x = 58 := UInt8.toNat_inj.mp h1
      have e2 : y = 93 := UInt8.toNat_inj.mp h2
      subst e1 e2
      simp [Lib.index, List.isPrefixOf]
    · rw [if_neg hc]
      have hne : ([58, 93] : List UInt8).isPrefixOf (x :: y :: r) = false := by
        simp only [List.isPrefixOf, Bool.and_true]
        rw [Bool.and_eq_false_iff]
        by_cases h1 : x = 58
        · right
          rw [beq_eq_false_iff_ne]
          rintro rfl
          exact hc ⟨by rw [h1]; rfl, rfl⟩
        · left
          rw [beq_eq_false_iff_ne]
          exact fun h => h1 h.symm
      have hidx : Lib.index (x :: y :: r) [58, 93] = if Lib.index (y :: r) [58, 93] == -1 then -1 else Lib.index (y :: r) [58, 93] + 1 := by
        conv => lhs; unfold Lib.index
        rw [hne]; rfl
      rw [hidx]
      cases hce : classEnd (y.toNat :: List.map UInt8.toNat r) with
      | none => rw [hce] at ih; simp only [Option.map_none] at ih ⊢; rw [ih]; rfl
      | some p =>
        rw [hce] at ih
        simp only [Option.map_some] at ih ⊢
        obtain ⟨h1, h2⟩ := ih
        rw [h1, h2, if_neg (by simp)]
        exact ⟨by simp, rfl⟩
/-- internal/bytealg's MaxLen holds some number -/
def MaxAt (w : World) : Prop := ∃ m, w.cell? ⟨0, 0, none⟩ = some (.int .i64 m)
theorem maxAt_below {w w' : World} (h : MaxAt w) (hb : Below w.heap.size w w') : MaxAt w' := by
  obtain ⟨m, hm⟩ := h
  exact ⟨m, by rw [hb.cell (p := ⟨0, 0, none⟩) (World.block_lt_of_cell? w _ hm)]; exact hm⟩
theorem cut_some (x s2 : ByteArray) (q n rest : List Nat) (h2 : s2 = ⟨#[58, 93]⟩) (hq : nats x = q) (hc : classEnd q = some (n, rest)) (hs : x.size < 4294967281) (w : World) (hm : MaxAt w) :
    Calls Try.prog 98 #[.string x, .string s2] w fun e w' => ∃ R, e = .returned (.tuple #[.string (ofNats n), .string R, .bool true]) ∧ Below w.heap.size w w' := by
  obtain ⟨m, hm⟩ := hm
  subst h2
  have hi := index_class x.data.toList
  rw [show x.data.toList.map UInt8.toNat = q from hq, hc] at hi
  obtain ⟨h1, h2⟩ := hi
  have hn : (Lib.cut x.data.toList [58, 93]).1 = toBytes n ∧ (Lib.cut x.data.toList [58, 93]).2.2 = true := by
    unfold Lib.cut
    rw [h1, if_pos (by omega)]
    refine ⟨?_, rfl⟩
    rw [← toBytes_nat x.data.toList, show x.data.toList.map UInt8.toNat = n ++ 58 :: 93 :: rest from by rw [← h2]; exact hq]
    unfold toBytes
    rw [← List.map_take, Int.toNat_natCast, List.take_left]
  have := Try.strings_Cut x ⟨#[58, 93]⟩ m w hs hm
  rw [show (⟨#[58, 93]⟩ : ByteArray).data.toList = [58, 93] from rfl, hn.1, hn.2] at this
  exact this.mono fun e w' ⟨he, k, hw⟩ => ⟨_, he, by rw [hw]; exact below_drewN (Below.refl _ _) k⟩
theorem cut_none (x s2 : ByteArray) (q : List Nat) (h2 : s2 = ⟨#[58, 93]⟩) (hq : nats x = q) (hc : classEnd q = none) (hs : x.size < 4294967281) (w : World) (hm : MaxAt w) :
    Calls Try.prog 98 #[.string x, .string s2] w fun e w' => e = .returned (.tuple #[.string x, .string ⟨#[]⟩, .bool false]) ∧ Below w.heap.size w w' := by
  obtain ⟨m, hm⟩ := hm
  subst h2
  have hi := index_class x.data.toList
  rw [show x.data.toList.map UInt8.toNat = q from hq, hc] at hi
  have hn : Lib.cut x.data.toList [58, 93] = (x.data.toList, [], false) := by
    unfold Lib.cut
    rw [if_neg (by rw [hi]; decide)]
  have := Try.strings_Cut x ⟨#[58, 93]⟩ m w hs hm
  rw [show (⟨#[58, 93]⟩ : ByteArray).data.toList = [58, 93] from rfl, hn] at this
  refine this.mono fun e w' ⟨he, k, hw⟩ => ⟨?_, by rw [hw]; exact below_drewN (Below.refl _ _) k⟩
  rw [he]
/-- what item and named hand back: where it ends, counted from the text's end -/
def itemV (n : Nat) : BR → Value
  | .bad e => .tuple #[.agg #[.int .u64 0, .int .u64 0, .int .u64 0, .int .u64 0], .int .i64 0, .int .i64 e]
  | .ok t rest => .tuple #[SV t, .int .i64 ((n - rest.length : Nat) : Int), .int .i64 0]
theorem itemV_bad (n e : Nat) : itemV n (.bad e) = .tuple #[.agg #[.int .u64 0, .int .u64 0, .int .u64 0, .int .u64 0], .int .i64 0, .int .i64 e] := rfl
theorem itemV_ok (n : Nat) (t : BitVec 256) (rest : List Nat) (d : Nat) (hd : n - rest.length = d) : itemV n (.ok t rest) = .tuple #[SV t, .int .i64 (d : Nat), .int .i64 0] := by
  subst hd; rfl
theorem classEnd_len : ∀ (q n rest : List Nat), classEnd q = some (n, rest) → q.length = n.length + 2 + rest.length
  | [], _, _, h => by simp [classEnd] at h
  | [_], _, _, h => by simp [classEnd] at h
  | x :: y :: r, n, rest, h => by
    unfold classEnd at h
    split at h
    · simp at h; obtain ⟨rfl, rfl⟩ := h; simp; omega
    · simp only [Option.map_eq_some_iff] at h
      obtain ⟨p, hp, he⟩ := h
      have := classEnd_len (y :: r) p.1 p.2 hp
      simp at he
      obtain ⟨rfl, rfl⟩ := he
      simp at this ⊢
      omega
theorem named_nats (x : ByteArray) (w : World) : Calls Try.prog 99 #[.string x] w fun e w' => e = .returned (.tuple #[SV (classOf x.toList).1, .bool (classOf x.toList).2]) ∧ Below w.heap.size w w' := named_any x w
theorem ofNats_list (n : List Nat) : (ofNats n).toList = toBytes n := by
  rw [Lib.toList_data]; rfl
theorem ofNats_size (n : List Nat) : (ofNats n).size = n.length := by
  rw [Lib.size_eq]; show (toBytes n).length = _; simp [toBytes]
set_option maxHeartbeats 2000000 in
theorem named_q (s : ByteArray) (k : Nat) (q : List Nat) (a : Int) (ha : a = (k : Int)) (hq : (nats s).drop (k + 2) = q) (hk : k + 2 ≤ s.size) (hs : s.size < 4294967281) (w : World) (hm : MaxAt w) :
    Calls Try.prog 92 #[.string s, .int .i64 a] w fun e w' => e = .returned (itemV s.size (classItem cls q)) ∧ Below w.heap.size w w' := by
  subst ha
  have hx : nats (s.extract (k + 2) s.size) = q := by rw [nats_extract, hq]
  have hxs : (s.extract (k + 2) s.size).size < 4294967281 := by rw [ByteArray.size_extract]; omega
  have hlen : k + 2 + q.length = s.size := by rw [← hq, List.length_drop, nats_length]; omega
  clear hq
  have hk0 : (k : Int) + 2 ≤ s.size := by omega
  have hk1 : (0 : Int) ≤ (k : Int) + 2 := by omega
  have hk2 : ((k : Int) + 2).toNat = k + 2 := by omega
  unfold classItem
  cases hc : classEnd q with
  | none =>
    simp only
    rw [itemV_bad]
    have hcut := cut_none _ ⟨#[58, 93]⟩ q rfl hx hc hxs
    go_enter Try.func92, Try.ntmps92
    go_wp2_with fail
    refine (hcut _ (maxAt_below hm ((Below.refl _ _).alloc (Nat.le_refl _) _))).mono ?_
    rintro e w1 ⟨rfl, hb1⟩
    have c1 : ∀ o, w1.cell? ⟨w.heap.size, o, none⟩ = _ := fun o => hb1.cell (p := ⟨w.heap.size, o, none⟩) (by simp; try omega)
    have f1 : ∀ o, w1.frozen? ⟨w.heap.size, o, none⟩ = _ := fun o => hb1.frozen (p := ⟨w.heap.size, o, none⟩) (by simp; try omega)
    have hz1 : w.heap.size < w1.heap.size := by have := hb1.size; simp at this; omega
    have B1 : Below w.heap.size w w1 := ((Below.refl _ _).alloc (Nat.le_refl _) _).trans (hb1.mono (by simp))
    go_wp2_with fail
    refine (named_nats _ _).mono ?_
    rintro e w2 ⟨rfl, hb2⟩
    have c2 : ∀ o, w2.cell? ⟨w.heap.size, o, none⟩ = w1.cell? ⟨w.heap.size, o, none⟩ := fun o => hb2.cell (p := ⟨w.heap.size, o, none⟩) hz1
    have f2 : ∀ o, w2.frozen? ⟨w.heap.size, o, none⟩ = w1.frozen? ⟨w.heap.size, o, none⟩ := fun o => hb2.frozen (p := ⟨w.heap.size, o, none⟩) hz1
    have hz2 : w.heap.size < w2.heap.size := by have := hb2.size; omega
    have hz3 : w.heap.size ≠ w2.heap.size := by omega
    have B2 : Below w.heap.size w w2 := B1.trans (hb2.mono (by omega))
    go_wp2_with fail
    refine bodyPost_ret (v := .tuple #[.agg #[.int .u64 0, .int .u64 0, .int .u64 0, .int .u64 0], .int .i64 0, .int .i64 2]) (by simp [results, Try.results92, go_sem, c1, c2, cell_alloc_old, hz2]) rfl ⟨rfl, ?_⟩
    refine Below.alloc ?_ (by simp; omega) _
    iterate 4 (refine Below.setCell ?_ (by simp) _)
    exact B2
  | some p =>
    obtain ⟨n, rest⟩ := p
    simp only
    have hcut := cut_some _ ⟨#[58, 93]⟩ q n rest rfl hx hc hxs
    have hnamed := named_any (ofNats n)
    rw [ofNats_list] at hnamed
    have hi := classEnd_len _ _ _ hc
    unfold cls
    cases hok : (classOf (toBytes n)).2 with
    | false =>
      rw [hok] at hnamed
      rw [if_neg (by simp), itemV_bad]
      generalize (classOf (toBytes n)).1 = T at *
      go_enter Try.func92, Try.ntmps92
      go_wp2_with fail
      refine (hcut _ (maxAt_below hm ((Below.refl _ _).alloc (Nat.le_refl _) _))).mono ?_
      rintro e w1 ⟨R, rfl, hb1⟩
      have c1 : ∀ o, w1.cell? ⟨w.heap.size, o, none⟩ = _ := fun o => hb1.cell (p := ⟨w.heap.size, o, none⟩) (by simp; try omega)
      have f1 : ∀ o, w1.frozen? ⟨w.heap.size, o, none⟩ = _ := fun o => hb1.frozen (p := ⟨w.heap.size, o, none⟩) (by simp; try omega)
      have hz1 : w.heap.size < w1.heap.size := by have := hb1.size; simp at this; omega
      have B1 : Below w.heap.size w w1 := ((Below.refl _ _).alloc (Nat.le_refl _) _).trans (hb1.mono (by simp))
      go_wp2_with fail
      refine (hnamed _).mono ?_
      rintro e w2 ⟨rfl, hb2⟩
      have c2 : ∀ o, w2.cell? ⟨w.heap.size, o, none⟩ = w1.cell? ⟨w.heap.size, o, none⟩ := fun o => hb2.cell (p := ⟨w.heap.size, o, none⟩) hz1
      have f2 : ∀ o, w2.frozen? ⟨w.heap.size, o, none⟩ = w1.frozen? ⟨w.heap.size, o, none⟩ := fun o => hb2.frozen (p := ⟨w.heap.size, o, none⟩) hz1
      have hz2 : w.heap.size < w2.heap.size := by have := hb2.size; omega
      have hz3 : w.heap.size ≠ w2.heap.size := by omega
      have B2 : Below w.heap.size w w2 := B1.trans (hb2.mono (by omega))
      go_wp2_with fail
      refine bodyPost_ret (v := .tuple #[.agg #[.int .u64 0, .int .u64 0, .int .u64 0, .int .u64 0], .int .i64 0, .int .i64 2]) (by simp [results, Try.results92, go_sem, c1, c2, cell_alloc_old, hz2]) rfl ⟨rfl, ?_⟩
      refine Below.alloc ?_ (by simp; omega) _
      iterate 4 (refine Below.setCell ?_ (by simp) _)
      exact B2
    | true =>
      rw [hok] at hnamed
      rw [if_pos rfl]
      simp only
      rw [itemV_ok _ _ _ (k + n.length + 4) (by omega)]
      generalize (classOf (toBytes n)).1 = T at *
      have hns : (ofNats n).size = n.length := ofNats_size n
      go_enter Try.func92, Try.ntmps92
      go_wp2_with fail
      refine (hcut _ (maxAt_below hm ((Below.refl _ _).alloc (Nat.le_refl _) _))).mono ?_
      rintro e w1 ⟨R, rfl, hb1⟩
      have c1 : ∀ o, w1.cell? ⟨w.heap.size, o, none⟩ = _ := fun o => hb1.cell (p := ⟨w.heap.size, o, none⟩) (by simp; try omega)
      have f1 : ∀ o, w1.frozen? ⟨w.heap.size, o, none⟩ = _ := fun o => hb1.frozen (p := ⟨w.heap.size, o, none⟩) (by simp; try omega)
      have hz1 : w.heap.size < w1.heap.size := by have := hb1.size; simp at this; omega
      have B1 : Below w.heap.size w w1 := ((Below.refl _ _).alloc (Nat.le_refl _) _).trans (hb1.mono (by simp))
      go_wp2_with fail
      refine (hnamed _).mono ?_
      rintro e w2 ⟨rfl, hb2⟩
      have c2 : ∀ o, w2.cell? ⟨w.heap.size, o, none⟩ = w1.cell? ⟨w.heap.size, o, none⟩ := fun o => hb2.cell (p := ⟨w.heap.size, o, none⟩) hz1
      have f2 : ∀ o, w2.frozen? ⟨w.heap.size, o, none⟩ = w1.frozen? ⟨w.heap.size, o, none⟩ := fun o => hb2.frozen (p := ⟨w.heap.size, o, none⟩) hz1
      have hz2 : w.heap.size < w2.heap.size := by have := hb2.size; omega
      have hz3 : w.heap.size ≠ w2.heap.size := by omega
      have B2 : Below w.heap.size w w2 := B1.trans (hb2.mono (by omega))
      go_wp2_with fail
      refine bodyPost_ret (v := .tuple #[SV T, .int .i64 (k + n.length + 4 : Nat), .int .i64 0]) (by simp [results, Try.results92, go_sem, c1, c2, cell_alloc_old, hz2]) rfl ⟨rfl, ?_⟩
      refine Below.alloc ?_ (by simp; omega) _
      iterate 4 (refine Below.setCell ?_ (by simp) _)
      exact B2
end Go.Proofs.Ytjfenbjamlflcaa
