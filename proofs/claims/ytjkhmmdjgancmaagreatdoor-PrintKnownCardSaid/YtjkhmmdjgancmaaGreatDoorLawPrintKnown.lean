/- The walk of law 7's PrintKnown. -/
import Derived.Test.YtjkhmmdjgancmaaGreatDoorPrintWhole
namespace Go.Proofs.YtjkhmmdjgancmaaGreatDoor
set_option maxRecDepth 100000
open Go.RowKit
/-! the closed facts -/
def kSets : List (BitVec 256) := [setOf [], BitVec.allOnes 256, setOf [46], setOf [45], setOf [92], setOf [45, 94], setOf [94, 97], setOf [93, 97], setOf [93, 94, 45], ~~~(setOf [97]), setOf (upTo 48 57), setOf [91, 97], setOf [91, 92], setOf [97, 98], setOf (upTo 90 92), setOf (upTo 65 91), setOf [91, 94], setOf [91, 45], ~~~(setOf [94]), ~~~(setOf [45, 94])]
def kStrs : List ByteArray := [⟨#[]⟩, ⟨#[46]⟩, ⟨#[92, 46]⟩, ⟨#[45]⟩, ⟨#[92, 92]⟩, ⟨#[91, 45, 94, 93]⟩, ⟨#[91, 97, 94, 93]⟩, ⟨#[91, 93, 97, 93]⟩, ⟨#[91, 93, 94, 45, 93]⟩, ⟨#[91, 94, 97, 93]⟩, ⟨#[91, 91, 58, 100, 105, 103, 105, 116, 58, 93, 93]⟩, ⟨#[91, 97, 91, 93]⟩, ⟨#[91, 92, 91, 93]⟩, ⟨#[91, 97, 98, 93]⟩, ⟨#[91, 90, 45, 92, 93]⟩, ⟨#[91, 65, 45, 91, 93]⟩, ⟨#[91, 91, 94, 93]⟩, ⟨#[91, 91, 45, 93]⟩, ⟨#[91, 94, 94, 93]⟩, ⟨#[91, 94, 45, 94, 93]⟩]
def kS (i : Nat) : BitVec 256 := kSets.getD i 0
theorem known_sets : ∀ k, k < 20 → setT (kS k) = nats (kStrs.getD k ⟨#[]⟩) := by decide +kernel
/-- "a", "^a$", "a|b|cd", "(a)*(?:b|c)+d?", "a{2}b{3,}c{0,4}", "[a-y]{0}", "\(\*", "[[:alpha:]].", "(?:a)" -/
def kPats : List ByteArray := [⟨#[97]⟩, ⟨#[94, 97, 36]⟩, ⟨#[97, 124, 98, 124, 99, 100]⟩, ⟨#[40, 97, 41, 42, 40, 63, 58, 98, 124, 99, 41, 43, 100, 63]⟩, ⟨#[97, 123, 50, 125, 98, 123, 51, 44, 125, 99, 123, 48, 44, 52, 125]⟩, ⟨#[91, 97, 45, 121, 93, 123, 48, 125]⟩, ⟨#[92, 40, 92, 42]⟩, ⟨#[91, 91, 58, 97, 108, 112, 104, 97, 58, 93, 93, 46]⟩, ⟨#[40, 63, 58, 97, 41]⟩]
def patOk (q : List Nat) : Bool := match ofP cls q with
  | .ok st en x g => decide (textOf st en x g = (q, 0))
  | .err _ _ => false
theorem known_pats : ∀ k, k < 9 → patOk (nats (kPats.getD k ⟨#[]⟩)) = true := by decide +kernel
theorem strs_at {w : World} {t : TypeId} (l : List ByteArray) : ∀ k, k < l.length → (w.alloc (.cells (l.map Value.string).toArray t)).cell? ⟨w.heap.size, k, none⟩ = some (.string (l.getD k ⟨#[]⟩)) := by
  intro k hk
  rw [World.cell?_alloc_at _ _ _ _ rfl]
  simp [List.getElem?_map, List.getElem?_eq_getElem hk, List.getD_eq_getElem?_getD]
theorem list20 (K : Nat → BitVec 256) (w : World) (cs : Array Value) (h : cs.toList = setCells ((List.range 20).map K)) : ∀ k, k < 20 → Set4 (w.alloc (.cells cs 25)) w.heap.size (k * 4) (K k) := by
  intro k hk
  have hs := sets_lit w ((List.range 20).map K) cs h (by simp [maxLen])
  obtain ⟨_, _, h3⟩ := hs
  rcases h3 with h3 | ⟨b, off, e, _, _, hc⟩
  · simp at h3
  · injection e with e
    injection e with e1 e2 e3
    subst e1 e2
    have := hc k (by simpa using hk)
    rw [Nat.zero_add] at this
    have hg : ((List.range 20).map K).getD k 0 = K k := by
      rw [List.getD_eq_getElem?_getD, List.getElem?_map, List.getElem?_range hk]; rfl
    rw [hg] at this
    exact this
def set6 : BitVec 256 := setOf [97, 99, 101, 103, 105, 107]
theorem text_zero : textOf false false (.mk 0 0 0 0 0 []) (0 : Int) = ([], 1) := by decide +kernel
theorem text_big : textOf false false (.mk 2 0 0 0 0 (List.replicate 140 (.mk 1 set6 0 0 0 []))) (0 : Int) = ([], 4) := by decide +kernel
theorem form_six : (Nd.mk 1 set6 0 0 0 []).form 0 = some 0 := by decide +kernel
theorem count_six : (Nd.mk 1 set6 0 0 0 []).count ≤ 2000 := by decide +kernel
theorem txt_six : (Nd.mk 1 set6 0 0 0 []).txt = nats ⟨#[91, 97, 99, 101, 103, 105, 107, 93]⟩ := by decide +kernel
theorem zero_at (w : World) : Nd.at w (.mk 0 0 0 0 0 []) [.int .i64 0, .int .u64 0, .int .u64 0, .int .u64 0, .int .u64 0, .int .i64 0, .int .i64 0, .int .i64 0, .slice none 0 0] := by
  rw [at_mk]
  exact ⟨by rfl, by rfl, by rfl, by rfl, none, 0, by simp only [word_zero]; rfl, by simp, .inl rfl⟩
theorem six_at (w : World) (S : BitVec 256) : Nd.at w (.mk 1 S 0 0 0 []) [.int .i64 1, .int .u64 (word S 0), .int .u64 (word S 1), .int .u64 (word S 2), .int .u64 (word S 3), .int .i64 0, .int .i64 0, .int .i64 0, .slice none 0 0] := by
  rw [at_mk]
  exact ⟨by rfl, by rfl, by rfl, by rfl, none, 0, rfl, by simp, .inl rfl⟩
theorem node_frozen8 {w : World} {b : Nat} {cs : Array Value} (h : NodeIn w b cs) (o : Nat) : w.frozen? ⟨b, o, none⟩ = false := by
  unfold NodeIn at h
  simp [World.frozen?, h]
theorem node_cell8 {w : World} {b : Nat} {v0 v1 v2 v3 v4 v5 v6 v7 v : Value} (h : NodeIn w b #[v0, v1, v2, v3, v4, v5, v6, v7, v]) : w.cell? ⟨b, 8, none⟩ = some v := by
  rw [cells_at h]; rfl
theorem rep_cells (p : Nd × List Value) (j : Nat) : (List.replicate (j + 1) p).flatMap (·.2) = (List.replicate j p).flatMap (·.2) ++ p.2 := by
  rw [List.replicate_succ', List.flatMap_append]; simp
/-- a node of 140 equal ones, out of its box and the row that the call owns -/
theorem row_big {w : World} {base : Nat} {x : Nd} {cA : List Value} {v : Value} (hA : Nd.at w x cA) (ho : w.ownsRow base 34 9 v 140 ((List.replicate 140 (x, cA)).flatMap (·.2))) :
    ∃ g cap, v = .slice (some ⟨g, 0, none⟩) 140 cap ∧ Nd.at w (.mk 2 0 0 0 0 (List.replicate 140 x)) [.int .i64 2, .int .u64 0, .int .u64 0, .int .u64 0, .int .u64 0, .int .i64 0, .int .i64 0, .int .i64 0, .slice (some ⟨g, 0, none⟩) 140 cap] := by
  obtain ⟨g, cap, rfl, _, hg, hc, hm, hrow⟩ := nodesAt_owns (List.replicate 140 (x, cA)) (fun p hp => by obtain rfl := List.eq_of_mem_replicate hp; exact hA) (by rw [List.length_replicate]) (by decide) ho
  refine ⟨g, cap, rfl, ?_⟩
  rw [List.map_replicate] at hrow
  rw [at_mk]
  refine ⟨by rfl, by rfl, by rfl, by rfl, some ⟨g, 0, none⟩, cap, ?_, by rw [List.length_replicate]; exact hm, .inr ⟨g, 0, rfl, by rw [List.length_replicate]; exact hc, hg, hrow⟩⟩
  rw [List.length_replicate, word_zero, word_zero, word_zero, word_zero]
  rfl
set_option maxHeartbeats 16000000 in
theorem printKnown_walk (w : World) (hT : TabAt 0 Lib.deBruijn64tab w) (hP : PowAt w) (hM : MaxAt w) : Calls Tryz.prog 3 #[] w fun e w' => e = .returned (.bool true) ∧ Below w.heap.size w w' := by
  have HT := Lib.hid (And.intro hT (And.intro hP hM))
  clear hT hP hM
  obtain ⟨K, hK⟩ : ∃ K, K = kS := ⟨_, rfl⟩
  obtain ⟨A, hA⟩ : ∃ A, A = setOf [97] := ⟨_, rfl⟩
  obtain ⟨C, hC⟩ : ∃ C, C = setOf [94] := ⟨_, rfl⟩
  have HK := Lib.hid hK
  have HA := Lib.hid hA
  have HC := Lib.hid hC
  clear hK hA hC
  have ho_nil : ∀ w : World, Calls Tryz.prog 7 #[.slice none 0 0] w fun e w' => e = .returned (SV (K 0)) ∧ Below w.heap.size w w' := fun w => by rw [show K 0 = setOf [] from by rw [HK.out]; rfl]; exact of_any none 0 0 [] w ⟨rfl, by simp, by decide, .inl rfl⟩
  have ho_all : ∀ w : World, Calls Tryz.prog 8 #[] w fun e w' => e = .returned (SV (K 1)) ∧ Below w.heap.size w w' := fun w => by rw [show K 1 = BitVec.allOnes 256 from by rw [HK.out]; rfl]; exact all_any w
  have ho_46 : ∀ (b : Option Addr) (cap : Nat) (w : World), BytesAt w b 1 cap [46] → Calls Tryz.prog 7 #[.slice b 1 cap] w fun e w' => e = .returned (SV (K 2)) ∧ Below w.heap.size w w' := fun b cap w h => by rw [show K 2 = setOf [46] from by rw [HK.out]; rfl]; exact of_any b 1 cap [46] w h
  have ho_45 : ∀ (b : Option Addr) (cap : Nat) (w : World), BytesAt w b 1 cap [45] → Calls Tryz.prog 7 #[.slice b 1 cap] w fun e w' => e = .returned (SV (K 3)) ∧ Below w.heap.size w w' := fun b cap w h => by rw [show K 3 = setOf [45] from by rw [HK.out]; rfl]; exact of_any b 1 cap [45] w h
  have ho_92 : ∀ (b : Option Addr) (cap : Nat) (w : World), BytesAt w b 1 cap [92] → Calls Tryz.prog 7 #[.slice b 1 cap] w fun e w' => e = .returned (SV (K 4)) ∧ Below w.heap.size w w' := fun b cap w h => by rw [show K 4 = setOf [92] from by rw [HK.out]; rfl]; exact of_any b 1 cap [92] w h
  have ho_45_94 : ∀ (b : Option Addr) (cap : Nat) (w : World), BytesAt w b 2 cap [45, 94] → Calls Tryz.prog 7 #[.slice b 2 cap] w fun e w' => e = .returned (SV (K 5)) ∧ Below w.heap.size w w' := fun b cap w h => by rw [show K 5 = setOf [45, 94] from by rw [HK.out]; rfl]; exact of_any b 2 cap [45, 94] w h
  have ho_94_97 : ∀ (b : Option Addr) (cap : Nat) (w : World), BytesAt w b 2 cap [94, 97] → Calls Tryz.prog 7 #[.slice b 2 cap] w fun e w' => e = .returned (SV (K 6)) ∧ Below w.heap.size w w' := fun b cap w h => by rw [show K 6 = setOf [94, 97] from by rw [HK.out]; rfl]; exact of_any b 2 cap [94, 97] w h
  have ho_93_97 : ∀ (b : Option Addr) (cap : Nat) (w : World), BytesAt w b 2 cap [93, 97] → Calls Tryz.prog 7 #[.slice b 2 cap] w fun e w' => e = .returned (SV (K 7)) ∧ Below w.heap.size w w' := fun b cap w h => by rw [show K 7 = setOf [93, 97] from by rw [HK.out]; rfl]; exact of_any b 2 cap [93, 97] w h
  have ho_93_94_45 : ∀ (b : Option Addr) (cap : Nat) (w : World), BytesAt w b 3 cap [93, 94, 45] → Calls Tryz.prog 7 #[.slice b 3 cap] w fun e w' => e = .returned (SV (K 8)) ∧ Below w.heap.size w w' := fun b cap w h => by rw [show K 8 = setOf [93, 94, 45] from by rw [HK.out]; rfl]; exact of_any b 3 cap [93, 94, 45] w h
  have ho_97 : ∀ (b : Option Addr) (cap : Nat) (w : World), BytesAt w b 1 cap [97] → Calls Tryz.prog 7 #[.slice b 1 cap] w fun e w' => e = .returned (SV (A)) ∧ Below w.heap.size w w' := fun b cap w h => by rw [show A = setOf [97] from by rw [HA.out]]; exact of_any b 1 cap [97] w h
  have hn_K9 : ∀ w : World, Calls Tryz.prog 9 #[SV (A)] w fun e w' => e = .returned (SV (K 9)) ∧ Below w.heap.size w w' := fun w => by rw [show K 9 = ~~~(A) from by rw [HK.out, HA.out]; rfl]; exact not_any _ w
  have hr_48 : ∀ w : World, Calls Tryz.prog 10 #[.int .u8 48, .int .u8 57] w fun e w' => e = .returned (SV (K 10)) ∧ Below w.heap.size w w' := fun w => by rw [show K 10 = setOf (upTo 48 57) from by rw [HK.out]; rfl]; exact range_lit 48 57 48 57 rfl rfl (by decide) (by decide) w
  have ho_91_97 : ∀ (b : Option Addr) (cap : Nat) (w : World), BytesAt w b 2 cap [91, 97] → Calls Tryz.prog 7 #[.slice b 2 cap] w fun e w' => e = .returned (SV (K 11)) ∧ Below w.heap.size w w' := fun b cap w h => by rw [show K 11 = setOf [91, 97] from by rw [HK.out]; rfl]; exact of_any b 2 cap [91, 97] w h
  have ho_91_92 : ∀ (b : Option Addr) (cap : Nat) (w : World), BytesAt w b 2 cap [91, 92] → Calls Tryz.prog 7 #[.slice b 2 cap] w fun e w' => e = .returned (SV (K 12)) ∧ Below w.heap.size w w' := fun b cap w h => by rw [show K 12 = setOf [91, 92] from by rw [HK.out]; rfl]; exact of_any b 2 cap [91, 92] w h
  have ho_97_98 : ∀ (b : Option Addr) (cap : Nat) (w : World), BytesAt w b 2 cap [97, 98] → Calls Tryz.prog 7 #[.slice b 2 cap] w fun e w' => e = .returned (SV (K 13)) ∧ Below w.heap.size w w' := fun b cap w h => by rw [show K 13 = setOf [97, 98] from by rw [HK.out]; rfl]; exact of_any b 2 cap [97, 98] w h
  have hr_90 : ∀ w : World, Calls Tryz.prog 10 #[.int .u8 90, .int .u8 92] w fun e w' => e = .returned (SV (K 14)) ∧ Below w.heap.size w w' := fun w => by rw [show K 14 = setOf (upTo 90 92) from by rw [HK.out]; rfl]; exact range_lit 90 92 90 92 rfl rfl (by decide) (by decide) w
  have hr_65 : ∀ w : World, Calls Tryz.prog 10 #[.int .u8 65, .int .u8 91] w fun e w' => e = .returned (SV (K 15)) ∧ Below w.heap.size w w' := fun w => by rw [show K 15 = setOf (upTo 65 91) from by rw [HK.out]; rfl]; exact range_lit 65 91 65 91 rfl rfl (by decide) (by decide) w
  have ho_91_94 : ∀ (b : Option Addr) (cap : Nat) (w : World), BytesAt w b 2 cap [91, 94] → Calls Tryz.prog 7 #[.slice b 2 cap] w fun e w' => e = .returned (SV (K 16)) ∧ Below w.heap.size w w' := fun b cap w h => by rw [show K 16 = setOf [91, 94] from by rw [HK.out]; rfl]; exact of_any b 2 cap [91, 94] w h
  have ho_91_45 : ∀ (b : Option Addr) (cap : Nat) (w : World), BytesAt w b 2 cap [91, 45] → Calls Tryz.prog 7 #[.slice b 2 cap] w fun e w' => e = .returned (SV (K 17)) ∧ Below w.heap.size w w' := fun b cap w h => by rw [show K 17 = setOf [91, 45] from by rw [HK.out]; rfl]; exact of_any b 2 cap [91, 45] w h
  have ho_94 : ∀ (b : Option Addr) (cap : Nat) (w : World), BytesAt w b 1 cap [94] → Calls Tryz.prog 7 #[.slice b 1 cap] w fun e w' => e = .returned (SV (C)) ∧ Below w.heap.size w w' := fun b cap w h => by rw [show C = setOf [94] from by rw [HC.out]]; exact of_any b 1 cap [94] w h
  have hn_K18 : ∀ w : World, Calls Tryz.prog 9 #[SV (C)] w fun e w' => e = .returned (SV (K 18)) ∧ Below w.heap.size w w' := fun w => by rw [show K 18 = ~~~(C) from by rw [HK.out, HC.out]; rfl]; exact not_any _ w
  have hn_K19 : ∀ w : World, Calls Tryz.prog 9 #[SV (K 5)] w fun e w' => e = .returned (SV (K 19)) ∧ Below w.heap.size w w' := fun w => by rw [show K 19 = ~~~(K 5) from by rw [HK.out]; rfl]; exact not_any _ w
  go_enter Tryz.func3, Tryz.ntmps3
  go_wp2_with fail
  refine (awake7_any _ HT.out.1).mono ?_
  rintro e w1 ⟨rfl, hb1⟩
  have Hb1 := Lib.hid hb1
  clear hb1
  go_upto_region 3 with fail
  go_cut [1] from 20 to 58 (fun v wx => ∃ B, v = .slice (some ⟨B, 0, none⟩) 20 20 ∧ B < wx.heap.size ∧ (∀ k, k < 20 → Set4 wx B (k * 4) (K k)) ∧ Below w.heap.size w wx)
  case first =>
    go_wp2_with fail
    refine (ho_nil _).mono ?_
    rintro e w2 ⟨rfl, hb⟩
    have Hb2 := Lib.hid (Hb1.out.trans (hb.mono Hb1.out.size))
    clear hb
    go_wp2_with fail
    refine (ho_all _).mono ?_
    rintro e w3 ⟨rfl, hb⟩
    have Hb3 := Lib.hid (Hb2.out.trans (hb.mono Hb2.out.size))
    clear hb
    go_wp2_with fail
    refine (ho_46 _ _ _ (bytesAt_new [46] (by decide) (by decide) rfl rfl rfl (by decide))).mono ?_
    rintro e w4 ⟨rfl, hb⟩
    have Hb4 := Lib.hid ((Hb3.out.alloc Hb3.out.size _).trans (hb.mono (by have := Hb3.out.size; simp; omega)))
    clear hb
    go_wp2_with fail
    refine (ho_45 _ _ _ (bytesAt_new [45] (by decide) (by decide) rfl rfl rfl (by decide))).mono ?_
    rintro e w5 ⟨rfl, hb⟩
    have Hb5 := Lib.hid ((Hb4.out.alloc Hb4.out.size _).trans (hb.mono (by have := Hb4.out.size; simp; omega)))
    clear hb
    go_wp2_with fail
    refine (ho_92 _ _ _ (bytesAt_new [92] (by decide) (by decide) rfl rfl rfl (by decide))).mono ?_
    rintro e w6 ⟨rfl, hb⟩
    have Hb6 := Lib.hid ((Hb5.out.alloc Hb5.out.size _).trans (hb.mono (by have := Hb5.out.size; simp; omega)))
    clear hb
    go_wp2_with fail
    refine (ho_45_94 _ _ _ (bytesAt_new [45, 94] (by decide) (by decide) rfl rfl rfl (by decide))).mono ?_
    rintro e w7 ⟨rfl, hb⟩
    have Hb7 := Lib.hid ((Hb6.out.alloc Hb6.out.size _).trans (hb.mono (by have := Hb6.out.size; simp; omega)))
    clear hb
    go_wp2_with fail
    refine (ho_94_97 _ _ _ (bytesAt_new [94, 97] (by decide) (by decide) rfl rfl rfl (by decide))).mono ?_
    rintro e w8 ⟨rfl, hb⟩
    have Hb8 := Lib.hid ((Hb7.out.alloc Hb7.out.size _).trans (hb.mono (by have := Hb7.out.size; simp; omega)))
    clear hb
    go_wp2_with fail
    refine (ho_93_97 _ _ _ (bytesAt_new [93, 97] (by decide) (by decide) rfl rfl rfl (by decide))).mono ?_
    rintro e w9 ⟨rfl, hb⟩
    have Hb9 := Lib.hid ((Hb8.out.alloc Hb8.out.size _).trans (hb.mono (by have := Hb8.out.size; simp; omega)))
    clear hb
    go_wp2_with fail
    refine (ho_93_94_45 _ _ _ (bytesAt_new [93, 94, 45] (by decide) (by decide) rfl rfl rfl (by decide))).mono ?_
    rintro e w10 ⟨rfl, hb⟩
    have Hb10 := Lib.hid ((Hb9.out.alloc Hb9.out.size _).trans (hb.mono (by have := Hb9.out.size; simp; omega)))
    clear hb
    go_wp2_with fail
    refine (ho_97 _ _ _ (bytesAt_new [97] (by decide) (by decide) rfl rfl rfl (by decide))).mono ?_
    rintro e w11 ⟨rfl, hb⟩
    have Hb11 := Lib.hid ((Hb10.out.alloc Hb10.out.size _).trans (hb.mono (by have := Hb10.out.size; simp; omega)))
    clear hb
    go_wp2_with fail
    refine (hn_K9 _).mono ?_
    rintro e w12 ⟨rfl, hb⟩
    have Hb12 := Lib.hid (Hb11.out.trans (hb.mono Hb11.out.size))
    clear hb
    go_wp2_with fail
    refine (hr_48 _).mono ?_
    rintro e w13 ⟨rfl, hb⟩
    have Hb13 := Lib.hid (Hb12.out.trans (hb.mono Hb12.out.size))
    clear hb
    go_wp2_with fail
    refine (ho_91_97 _ _ _ (bytesAt_new [91, 97] (by decide) (by decide) rfl rfl rfl (by decide))).mono ?_
    rintro e w14 ⟨rfl, hb⟩
    have Hb14 := Lib.hid ((Hb13.out.alloc Hb13.out.size _).trans (hb.mono (by have := Hb13.out.size; simp; omega)))
    clear hb
    go_wp2_with fail
    refine (ho_91_92 _ _ _ (bytesAt_new [91, 92] (by decide) (by decide) rfl rfl rfl (by decide))).mono ?_
    rintro e w15 ⟨rfl, hb⟩
    have Hb15 := Lib.hid ((Hb14.out.alloc Hb14.out.size _).trans (hb.mono (by have := Hb14.out.size; simp; omega)))
    clear hb
    go_wp2_with fail
    refine (ho_97_98 _ _ _ (bytesAt_new [97, 98] (by decide) (by decide) rfl rfl rfl (by decide))).mono ?_
    rintro e w16 ⟨rfl, hb⟩
    have Hb16 := Lib.hid ((Hb15.out.alloc Hb15.out.size _).trans (hb.mono (by have := Hb15.out.size; simp; omega)))
    clear hb
    go_wp2_with fail
    refine (hr_90 _).mono ?_
    rintro e w17 ⟨rfl, hb⟩
    have Hb17 := Lib.hid (Hb16.out.trans (hb.mono Hb16.out.size))
    clear hb
    go_wp2_with fail
    refine (hr_65 _).mono ?_
    rintro e w18 ⟨rfl, hb⟩
    have Hb18 := Lib.hid (Hb17.out.trans (hb.mono Hb17.out.size))
    clear hb
    go_wp2_with fail
    refine (ho_91_94 _ _ _ (bytesAt_new [91, 94] (by decide) (by decide) rfl rfl rfl (by decide))).mono ?_
    rintro e w19 ⟨rfl, hb⟩
    have Hb19 := Lib.hid ((Hb18.out.alloc Hb18.out.size _).trans (hb.mono (by have := Hb18.out.size; simp; omega)))
    clear hb
    go_wp2_with fail
    refine (ho_91_45 _ _ _ (bytesAt_new [91, 45] (by decide) (by decide) rfl rfl rfl (by decide))).mono ?_
    rintro e w20 ⟨rfl, hb⟩
    have Hb20 := Lib.hid ((Hb19.out.alloc Hb19.out.size _).trans (hb.mono (by have := Hb19.out.size; simp; omega)))
    clear hb
    go_wp2_with fail
    refine (ho_94 _ _ _ (bytesAt_new [94] (by decide) (by decide) rfl rfl rfl (by decide))).mono ?_
    rintro e w21 ⟨rfl, hb⟩
    have Hb21 := Lib.hid ((Hb20.out.alloc Hb20.out.size _).trans (hb.mono (by have := Hb20.out.size; simp; omega)))
    clear hb
    go_wp2_with fail
    refine (hn_K18 _).mono ?_
    rintro e w22 ⟨rfl, hb⟩
    have Hb22 := Lib.hid (Hb21.out.trans (hb.mono Hb21.out.size))
    clear hb
    go_wp2_with fail
    refine (ho_45_94 _ _ _ (bytesAt_new [45, 94] (by decide) (by decide) rfl rfl rfl (by decide))).mono ?_
    rintro e w23 ⟨rfl, hb⟩
    have Hb23 := Lib.hid ((Hb22.out.alloc Hb22.out.size _).trans (hb.mono (by have := Hb22.out.size; simp; omega)))
    clear hb
    go_wp2_with fail
    refine (hn_K19 _).mono ?_
    rintro e w24 ⟨rfl, hb⟩
    have Hb24 := Lib.hid (Hb23.out.trans (hb.mono Hb23.out.size))
    clear hb
    go_wp2_with fail
    go_meet
    exact ⟨w24.heap.size, rfl, by simp, list20 K w24 _ rfl, Hb24.out.alloc Hb24.out.size _⟩
  case rest =>
    obtain ⟨B, rfl, hB, hset, hb⟩ := hcut
    obtain ⟨W2, hW2⟩ : ∃ W2, W2 = wc.alloc (.cells (kStrs.map Value.string).toArray 9) := ⟨_, rfl⟩
    have hal : Below wc.heap.size wc W2 := by rw [hW2]; exact (Below.refl _ _).alloc (Nat.le_refl _) _
    have hcell := strs_at (w := wc) (t := 9) kStrs
    rw [← hW2] at hcell
    have hset2 : ∀ k, k < 20 → Set4 W2 B (k * 4) (K k) := fun k hk => (hset k hk).below hal hB
    have Hset := Lib.hid (And.intro hset2 hcell)
    have HB := Lib.hid (And.intro (Nat.lt_of_lt_of_le hB hal.size) (hb.trans (hal.mono hb.size)))
    have hlt : wc.heap.size < W2.heap.size := by rw [hW2]; simp
    have Hlt := Lib.hid hlt
    clear hset hset2 hcell hal hB hb hlt
    go_upto_region 5 with fail
    have hW2' : wc.alloc (.cells #[.string ⟨#[]⟩, .string ⟨#[46]⟩, .string ⟨#[92, 46]⟩, .string ⟨#[45]⟩, .string ⟨#[92, 92]⟩, .string ⟨#[91, 45, 94, 93]⟩, .string ⟨#[91, 97, 94, 93]⟩, .string ⟨#[91, 93, 97, 93]⟩, .string ⟨#[91, 93, 94, 45, 93]⟩, .string ⟨#[91, 94, 97, 93]⟩, .string ⟨#[91, 91, 58, 100, 105, 103, 105, 116, 58, 93, 93]⟩, .string ⟨#[91, 97, 91, 93]⟩, .string ⟨#[91, 92, 91, 93]⟩, .string ⟨#[91, 97, 98, 93]⟩, .string ⟨#[91, 90, 45, 92, 93]⟩, .string ⟨#[91, 65, 45, 91, 93]⟩, .string ⟨#[91, 91, 94, 93]⟩, .string ⟨#[91, 91, 45, 93]⟩, .string ⟨#[91, 94, 94, 93]⟩, .string ⟨#[91, 94, 45, 94, 93]⟩] 9) = W2 := by rw [hW2]; rfl
    rw [hW2']
    clear hW2 hW2'
    go_wp2_with fail
    go_loopw [3] (fun i wr => ∃ k : Nat, k ≤ 20 ∧ i = .int .i64 k ∧ Below W2.heap.size W2 wr) (fun i _ => 20 - (intOf i).toNat)
    case atStart => exact ⟨0, by omega, rfl, Below.refl _ _⟩
    case round =>
      obtain ⟨k, hk, rfl, hbr⟩ := hrel
      by_cases hk20 : k < 20
      · have hd : decide ((k : Int) < 20) = true := by simp; omega
        obtain ⟨T, hTk⟩ : ∃ T, T = kStrs.getD k ⟨#[]⟩ := ⟨_, rfl⟩
        have hks := known_sets k hk20
        rw [← hTk, ← HK.out] at hks
        have hset4 := (Hset.out.1 k hk20).below hbr HB.out.1
        have hstr : wr.cell? ⟨wc.heap.size, k, none⟩ = some (.string T) := by rw [hbr.cell (p := ⟨wc.heap.size, k, none⟩) Hlt.out, Hset.out.2 k hk20, hTk]
        have hbw := HB.out.2.trans (hbr.mono HB.out.2.size)
        have hl : ∀ w', (∃ L : Later wr, w' = L.val) → Set4 w' B (k * 4) (K k) := fun w' hw' => by obtain ⟨L, rfl⟩ := hw'; exact hset4.below L.ok hset4.lt
        have hBr : wc.heap.size < wr.heap.size := Nat.lt_of_lt_of_le Hlt.out hbr.size
        have hs := fun (L : Later wr) => (L.ok.cell (p := ⟨wc.heap.size, k, none⟩) hBr).trans hstr
        have Hks := Lib.hid hks
        have Hl := Lib.hid hl
        have Hbr := Lib.hid hbr
        have Hbw := Lib.hid hbw
        have hne := Later.nonempty wr
        clear hTk hks hset4 hstr hbw hl hBr hbr
        go_wp2_with fail
        refine wp_region_eager (.plain 0 (.plain 1 (.plain 2 (.plain 3 (.plain 5 (.plain 6 (.plain 7 (.plain 8 (.sole 4 (.plain 9 .done)))))))))) (W0 := wr) (Below.refl _ _) (by kernel_rfl) (by kernel_rfl) (fun c a d v w h => by cases d <;> exact h) ?_
        repeat (first
          | (refine' eager_skip ?_ ?_ ?_
             rotate_left 1
             · simp only [List.getElem?_toArray, List.getElem?_cons_zero, List.getElem?_cons_succ]; exact rfl
             · exact rfl
             simp only [Act.put, List.setIfInBounds_toArray, List.set_cons_zero, List.set_cons_succ])
          | (refine' eager_want ?_ ?_ (fun K hK => ?_)
             rotate_left 1
             · simp only [List.getElem?_toArray, List.getElem?_cons_zero, List.getElem?_cons_succ]; exact rfl
             · exact rfl
             first
             | (refine quiet_load_set _ rfl B (k * 4) _ rfl Hl.out ?_; refine hK _ ?_; clear hK K; try simp only [Act.put, List.setIfInBounds_toArray, List.set_cons_zero, List.set_cons_succ])
             | (go_big_quiet_op; refine hK _ ?_; clear hK K)))
        refine' eager_call ?_ ?_ (fun K hK => ?_)
        rotate_left 1
        · simp only [List.getElem?_toArray, List.getElem?_cons_zero, List.getElem?_cons_succ]; exact rfl
        · exact rfl
        go_simp
        refine (set_walk _ _ (tab_drew (tab_below HT.out.1 Hbw.out (tab_pos HT.out.1)))).mono ?_
        rintro e wn ⟨⟨t, rfl, ht⟩, hbn⟩
        obtain rfl : t = T := of_nats (ht.trans Hks.out)
        refine hK _ _ hbn ?_
        have Hbn := Lib.hid (show Below wr.heap.size wr wn from ((Below.refl _ _).drew).trans hbn)
        clear hbn hK K ht
        try simp only [Act.put, List.setIfInBounds_toArray, List.set_cons_zero, List.set_cons_succ]
        refine' eager_want ?_ ?_ (fun K hK => ?_)
        rotate_left 1
        · simp only [List.getElem?_toArray, List.getElem?_cons_zero, List.getElem?_cons_succ]; exact rfl
        · exact rfl
        go_big_quiet_op
        refine hK _ ?_
        clear hK K
        refine eager_done ?_
        go_wp2_with fail
        go_roundw
        case rel => exact ⟨k + 1, by omega, by go_num, Hbr.out.trans (Hbn.out.mono Hbr.out.size)⟩
        case measure => simp [intOf]; omega
      · have hd : decide ((k : Int) < 20) = false := by simp; omega
        have HB2 := Lib.hid (HB.out.2.trans (hbr.mono HB.out.2.size))
        clear hbr hk hk20 Hset HB Hlt ho_nil ho_all hn_K9 hn_K18 hn_K19
        clear Hb1
        obtain ⟨W3, hW3⟩ : ∃ W3, W3 = wr.alloc (.cells (kPats.map Value.string).toArray 9) := ⟨_, rfl⟩
        have hal : Below wr.heap.size wr W3 := by rw [hW3]; exact (Below.refl _ _).alloc (Nat.le_refl _) _
        have hcell := strs_at (w := wr) (t := 9) kPats
        rw [← hW3] at hcell
        have HCell := Lib.hid hcell
        have HB3 := Lib.hid (HB2.out.trans (hal.mono HB2.out.size))
        have hlt : wr.heap.size < W3.heap.size := by rw [hW3]; simp
        have Hlt := Lib.hid hlt
        clear hcell hal hlt
        go_upto_region 11 with fail
        have hW3' : wr.alloc (.cells #[.string ⟨#[97]⟩, .string ⟨#[94, 97, 36]⟩, .string ⟨#[97, 124, 98, 124, 99, 100]⟩, .string ⟨#[40, 97, 41, 42, 40, 63, 58, 98, 124, 99, 41, 43, 100, 63]⟩, .string ⟨#[97, 123, 50, 125, 98, 123, 51, 44, 125, 99, 123, 48, 44, 52, 125]⟩, .string ⟨#[91, 97, 45, 121, 93, 123, 48, 125]⟩, .string ⟨#[92, 40, 92, 42]⟩, .string ⟨#[91, 91, 58, 97, 108, 112, 104, 97, 58, 93, 93, 46]⟩, .string ⟨#[40, 63, 58, 97, 41]⟩] 9) = W3 := by rw [hW3]; rfl
        rw [hW3']
        clear hW3 hW3'
        obtain ⟨b4, hb4⟩ : ∃ b4, b4 = wr.heap.size := ⟨_, rfl⟩
        rw [← hb4] at HCell Hlt
        rw [← hb4]
        clear hb4
        go_wp2_with fail
        go_loopw [5] (fun i wz => ∃ k : Nat, k ≤ 9 ∧ i = .int .i64 k ∧ Below W3.heap.size W3 wz) (fun i _ => 9 - (intOf i).toNat)
        case atStart => exact ⟨0, by omega, rfl, Below.refl _ _⟩
        case round =>
          obtain ⟨k2, hk2, rfl, hbz⟩ := hrel
          by_cases hk9 : k2 < 9
          · have hd2 : decide ((k2 : Int) < 9) = true := by simp; omega
            obtain ⟨T, hTk⟩ : ∃ T, T = kPats.getD k2 ⟨#[]⟩ := ⟨_, rfl⟩
            have hpk := known_pats k2 hk9
            rw [← hTk] at hpk
            unfold patOk at hpk
            obtain ⟨st, en, x, g, hof, hto⟩ : ∃ st en x g, ofP cls (nats T) = .ok st en x g ∧ textOf st en x (g : Int) = (nats T, 0) := by
              cases hq : ofP cls (nats T) with
              | err a b => rw [hq] at hpk; cases hpk
              | ok st en x g => rw [hq] at hpk; exact ⟨st, en, x, g, rfl, by simpa using hpk⟩
            have hstr : wr.cell? ⟨b4, k2, none⟩ = some (.string T) := by rw [hbz.cell (p := ⟨b4, k2, none⟩) Hlt.out, HCell.out k2 hk9, hTk]
            have hbw := HB3.out.trans (hbz.mono HB3.out.size)
            have hofw := of_walk T wr (maxAt_below HT.out.2.2 hbw)
            rw [hof] at hofw
            have Hofw := Lib.hid hofw
            have Hto := Lib.hid hto
            have Hbz := Lib.hid hbz
            have Hbw := Lib.hid hbw
            have Hstr := Lib.hid (And.intro hstr (Nat.lt_of_lt_of_le Hlt.out hbz.size))
            clear hTk hpk hof hto hofw hbz hbw
            go_wp2_with fail
            refine Hofw.out.mono ?_
            rintro e w4 ⟨cs, rfl, hat, hb4⟩
            obtain ⟨kq, sq, loq, hiq, nq, aq, lenq, capq, rfl⟩ := at_lit hat
            simp only [patCells, List.cons_append, List.nil_append]
            have hal : Below w4.heap.size w4 (w4.alloc (.cells #[.bool st, .bool en, .int .i64 kq, .int .u64 (word sq 0), .int .u64 (word sq 1), .int .u64 (word sq 2), .int .u64 (word sq 3), .int .i64 loq, .int .i64 hiq, .int .i64 nq, .slice aq lenq capq, .int .i64 (g : Int)] 36)) := (Below.refl _ _).alloc (Nat.le_refl _) _
            have hpat := pat_new w4 #[.bool st, .bool en, .int .i64 kq, .int .u64 (word sq 0), .int .u64 (word sq 1), .int .u64 (word sq 2), .int .u64 (word sq 3), .int .i64 loq, .int .i64 hiq, .int .i64 nq, .slice aq lenq capq, .int .i64 (g : Int)]
            obtain ⟨W5, hW5⟩ : ∃ W5, W5 = w4.alloc (.cells #[.bool st, .bool en, .int .i64 kq, .int .u64 (word sq 0), .int .u64 (word sq 1), .int .u64 (word sq 2), .int .u64 (word sq 3), .int .i64 loq, .int .i64 hiq, .int .i64 nq, .slice aq lenq capq, .int .i64 (g : Int)] 36) := ⟨_, rfl⟩
            rw [← hW5] at hal hpat
            have hb45 := hb4.trans (hal.mono hb4.size)
            have hbw5 := Hbw.out.trans (hb45.mono Hbw.out.size)
            have htw := text_walk st en (gr := (g : Int)) (Nd.at_below hal (Nat.le_refl _) _ _ hat) (tab_below HT.out.1 hbw5 (tab_pos HT.out.1)) (pow_below HT.out.2.1 hbw5)
            rw [Hto.out] at htw
            simp only [patCells, List.cons_append, List.nil_append] at htw
            have Htw := Lib.hid htw
            have Hpat := Lib.hid hpat
            have Hb45 := Lib.hid hb45
            clear hat hb4 hal hpat hb45 hbw5 htw hstr
            go_upto_region 15 with fail
            rw [← hW5]
            clear hW5
            go_upto_region 16 with (first | (refine wpList_load_pat rfl _ rfl w4.heap.size _ rfl Hpat.out rfl ?_) | (go_at_call 13; refine Htw.out.mono ?_; rintro e w6 ⟨⟨t, rfl, ht⟩, hb6⟩; obtain rfl : t = T := of_nats ht; have Hb6 := Lib.hid (Hb45.out.trans (hb6.mono Hb45.out.size)); clear hb6 ht))
            have hstr6 : w6.cell? ⟨b4, k2, none⟩ = some (.string t) := (Hb6.out.cell (p := ⟨b4, k2, none⟩) Hstr.out.2).trans Hstr.out.1
            go_wp2_with fail
            go_roundw
            case rel => exact ⟨k2 + 1, by omega, by go_num, Hbz.out.trans (Hb6.out.mono Hbz.out.size)⟩
            case measure => simp [intOf]; omega
          · have hd2 : decide ((k2 : Int) < 9) = false := by simp; omega
            have Hbw := Lib.hid (HB3.out.trans (hbz.mono HB3.out.size))
            clear hbz hk2 hk9 HB3 HB2 HCell Hlt
            go_upto_region 18 with fail
            have hz := text_walk false false (gr := 0) (zero_at wr) (tab_below HT.out.1 Hbw.out (tab_pos HT.out.1)) (pow_below HT.out.2.1 Hbw.out)
            rw [text_zero] at hz
            simp only [patCells, List.cons_append, List.nil_append] at hz
            have Hz := Lib.hid hz
            clear hz
            have ho_6 : ∀ (b : Option Addr) (cap : Nat) (w : World), BytesAt w b 6 cap [97, 99, 101, 103, 105, 107] → Calls Tryz.prog 7 #[.slice b 6 cap] w fun e w' => e = .returned (SV set6) ∧ Below w.heap.size w w' := fun b cap w h => of_any b 6 cap [97, 99, 101, 103, 105, 107] w h
            obtain ⟨S, hS⟩ : ∃ S, S = set6 := ⟨_, rfl⟩
            rw [← hS] at ho_6
            have HS := Lib.hid hS
            clear hS
            go_upto_region 19 with (first
              | (go_at_call 13; refine Hz.out.mono ?_; rintro e w4 ⟨⟨t, rfl, ht⟩, hb4⟩; obtain rfl : t = ⟨#[]⟩ := of_nats ht; have Hb4 := Lib.hid (Hbw.out.trans (hb4.mono Hbw.out.size)); clear hb4 ht)
              | fail)
            go_upto_region 22 with (first
              | (go_at_call 7; refine (ho_6 _ _ _ (bytesAt_new [97, 99, 101, 103, 105, 107] (by decide) (by decide) rfl rfl rfl (by decide))).mono ?_; rintro e w5 ⟨rfl, hb5⟩; have Hb5 := Lib.hid ((Hb4.out.alloc Hb4.out.size _).trans (hb5.mono (by have := Hb4.out.size; simp; omega))); clear hb5)
              | fail)
            obtain ⟨W6, hW6⟩ : ∃ W6, W6 = w5.alloc (.cells #[.int .i64 1, .int .u64 (word S 0), .int .u64 (word S 1), .int .u64 (word S 2), .int .u64 (word S 3), .int .i64 0, .int .i64 0, .int .i64 0, .slice none 0 0] 34) := ⟨_, rfl⟩
            have hs6 : W6.heap.size = w5.heap.size + 1 := by rw [hW6]; simp
            have hn6 : NodeIn W6 w5.heap.size #[.int .i64 1, .int .u64 (word S 0), .int .u64 (word S 1), .int .u64 (word S 2), .int .u64 (word S 3), .int .i64 0, .int .i64 0, .int .i64 0, .slice none 0 0] := by rw [hW6]; exact World.alloc_heap_new _ _
            have hb6 : Below w.heap.size w W6 := by rw [hW6]; exact Hb5.out.alloc Hb5.out.size _
            obtain ⟨b6, hb6e⟩ : ∃ b6, b6 = w5.heap.size := ⟨_, rfl⟩
            rw [← hW6, ← hs6, ← hb6e]
            rw [← hb6e] at hn6 hs6
            clear hW6 hb6e
            have HS6 := Lib.hid hs6
            have Hb6 := Lib.hid hb6
            have Hn6 := Lib.hid hn6
            have Hn7 := Lib.hid (World.alloc_heap_new W6 (.cells #[.int .i64 2, .int .u64 0, .int .u64 0, .int .u64 0, .int .u64 0, .int .i64 0, .int .i64 0, .int .i64 0, .slice none 0 0] 34))
            clear hs6 hb6 hn6
            obtain ⟨cA, hcA⟩ : ∃ c : List Value, c = [.int .i64 1, .int .u64 (word S 0), .int .u64 (word S 1), .int .u64 (word S 2), .int .u64 (word S 3), .int .i64 0, .int .i64 0, .int .i64 0, .slice none 0 0] := ⟨_, rfl⟩
            have HcA := Lib.hid hcA
            clear hcA
            go_loopw [15] (fun i wq => ∃ (j : Nat) (v : Value), i = .int .i64 j ∧ j ≤ 140 ∧ Hid (NodeIn wq W6.heap.size #[.int .i64 2, .int .u64 0, .int .u64 0, .int .u64 0, .int .u64 0, .int .i64 0, .int .i64 0, .int .i64 0, v]) ∧ Hid (wq.ownsRow (W6.heap.size + 1) 34 9 v j ((List.replicate j (Nd.mk 1 S 0 0 0 [], cA)).flatMap (·.2))) ∧ Hid (Below W6.heap.size W6 wq ∧ W6.heap.size < wq.heap.size)) (fun i _ => 140 - (intOf i).toNat)
            case atStart => exact ⟨0, .slice none 0 0, rfl, by omega, Hn7.out, World.ownsRow_nil _ _ _ _, (Below.refl _ _).alloc (Nat.le_refl _) _, by simp⟩
            case round =>
              obtain ⟨q, v, rfl, hq2, hnode2, hown, hbel2⟩ := hrel
              by_cases hq140 : q < 140
              · have hdj2 : decide ((q : Int) < 140) = true := by simp; omega
                have hv := node_cell8 hnode2.out
                have hA3 : Node9 wr b6 0 [.int .i64 1, .int .u64 (word S 0), .int .u64 (word S 1), .int .u64 (word S 2), .int .u64 (word S 3), .int .i64 0, .int .i64 0, .int .i64 0, .slice none 0 0] := node9_in ((hbel2.out.1.block b6 (by have := HS6.out; omega)).trans Hn6.out) rfl
                have hrowc : ∀ u ∈ ([.int .i64 1, .int .u64 (word S 0), .int .u64 (word S 1), .int .u64 (word S 2), .int .u64 (word S 3), .int .i64 0, .int .i64 0, .int .i64 0, .slice none 0 0] : List Value), u.oneCell' = true := by
                  simp only [List.forall_mem_cons]
                  exact ⟨rfl, rfl, rfl, rfl, rfl, rfl, rfl, rfl, rfl, fun p hp => by cases hp⟩
                have Hrowc := Lib.hid hrowc
                clear hrowc
                have Hq := Lib.hid hq140
                clear hq140
                go_wp2_with (first
                  | (refine wpList_load_node rfl _ rfl _ 0 _ rfl hA3 ?_; clear hA3)
                  | (refine wpList_append_node rfl _ _ rfl (W6.heap.size + 1) v q _ rfl (hown.out.alloc _) wr.heap.size _ rfl (node9_in (World.alloc_heap_new wr _) rfl) Hrowc.out (by have := Hq.out; omega) (by have := hbel2.out.2; simp; omega) ?_
                     intro v' w4 hown4 hgr4
                     obtain ⟨g', cap', rfl⟩ := ownsRow_succ hown4
                     have hlt2 := hbel2.out.2
                     have hne4 : some W6.heap.size ≠ v.ownBlock := fun e => by have := hown.out.lt W6.heap.size e.symm; omega
                     have hn4 : NodeIn w4 W6.heap.size _ := (hgr4.block W6.heap.size (by simp; omega) hne4).trans ((Below.heap_alloc wr _ W6.heap.size hlt2).trans hnode2.out)
                     have hc4 := node_cell8 hn4
                     have hf4 := node_frozen8 hn4 8
                     have Hn4 := Lib.hid hn4
                     have Hown4 := Lib.hid hown4
                     have Hgr4 := Lib.hid hgr4
                     have Hne4 := Lib.hid hne4
                     clear hn4 hown4 hgr4 hv hlt2 hne4)
                  | fail)
                go_roundw
                case rel =>
                  have hlt2 := hbel2.out.2
                  have hs4 := Hgr4.out.size
                  rw [World.size_alloc] at hs4
                  refine ⟨q + 1, _, by go_num, by have := Hq.out; omega, node_setField Hn4.out _, ?_, ?_, by simp; omega⟩
                  · show World.ownsRow _ _ _ _ _ _ _
                    rw [rep_cells, HcA.out]
                    have h := ownsRow_setCell_below Hown4.out (a := ⟨W6.heap.size, 8, none⟩) (Nat.lt_succ_self _) (.slice (some ⟨g', 0, none⟩) (q + 1) cap')
                    rw [HcA.out] at h
                    exact h
                  · have hb4 : Below W6.heap.size W6 w4 := hbel2.out.1.trans ⟨Hgr4.out.os, Hgr4.out.tape, Hgr4.out.output, by omega, fun k hk => (Hgr4.out.block k (by simp; omega) (fun e => by have := hown.out.lt k e.symm; omega)).trans (Below.heap_alloc wr _ k (by omega))⟩
                    exact hb4.setCell (Nat.le_refl _) _
                case measure => simp [intOf]; have := Hq.out; omega
              · obtain rfl : q = 140 := by omega
                have hdj2 : decide ((140 : Int) < 140) = false := by simp
                have hat6 : ∀ w, Nd.at w (.mk 1 S 0 0 0 []) cA := fun w => by rw [HcA.out]; exact six_at w S
                obtain ⟨gB, capB, rfl, hatB⟩ := row_big (hat6 wr) hown.out
                have hbw := Hb6.out.trans (hbel2.out.1.mono Hb6.out.size)
                have hbz := text_walk false false (gr := 0) hatB (tab_below HT.out.1 hbw (tab_pos HT.out.1)) (pow_below HT.out.2.1 hbw)
                rw [HS.out, text_big] at hbz
                simp only [patCells, List.cons_append, List.nil_append] at hbz
                have Hbz := Lib.hid hbz
                have hnB := hnode2.out
                have hn14 : Node9 wr W6.heap.size 0 _ := node9_in (cs := [.int .i64 2, .int .u64 0, .int .u64 0, .int .u64 0, .int .u64 0, .int .i64 0, .int .i64 0, .int .i64 0, .slice (some ⟨gB, 0, none⟩) 140 capB]) hnB rfl
                have hn13 : Node9 wr b6 0 [.int .i64 1, .int .u64 (word S 0), .int .u64 (word S 1), .int .u64 (word S 2), .int .u64 (word S 3), .int .i64 0, .int .i64 0, .int .i64 0, .slice none 0 0] := node9_in ((hbel2.out.1.block b6 (by have := HS6.out; omega)).trans Hn6.out) rfl
                have Hbw2 := Lib.hid hbw
                have Hlt6 := Lib.hid (show b6 < wr.heap.size by have := HS6.out; have := hbel2.out.2; omega)
                have Hn13 := Lib.hid hn13
                have Hn14 := Lib.hid hn14
                clear hbz hnB hn14 hn13 hbw hatB hat6 hnode2 hown hbel2
                go_upto_region 25 with fail
                go_upto_region 26 with (first
                  | (refine wpList_load_node rfl _ rfl W6.heap.size 0 _ rfl Hn14.out ?_)
                  | (go_at_call 13; refine Hbz.out.mono ?_; rintro e w7 ⟨⟨t, rfl, ht⟩, hb7⟩; obtain rfl : t = ⟨#[]⟩ := of_nats ht; have Hb7 := Lib.hid hb7; clear hb7 ht)
                  | fail)
                have hbw3 := Hbw2.out.trans (Hb7.out.mono Hbw2.out.size)
                have hnt := node_text (six_at w7 S) (next := 0) (m := 0) (by rw [HS.out]; exact form_six) (by rw [HS.out]; exact count_six) (tab_below HT.out.1 hbw3 (tab_pos HT.out.1)) (pow_below HT.out.2.1 hbw3)
                have htx : (Nd.mk 1 S 0 0 0 []).txt = nats ⟨#[91, 97, 99, 101, 103, 105, 107, 93]⟩ := by rw [HS.out]; exact txt_six
                have Hnt := Lib.hid hnt
                have Htx := Lib.hid htx
                have Hbw3 := Lib.hid hbw3
                have Hm13 : Hid (Node9 w7 b6 0 [.int .i64 1, .int .u64 (word S 0), .int .u64 (word S 1), .int .u64 (word S 2), .int .u64 (word S 3), .int .i64 0, .int .i64 0, .int .i64 0, .slice none 0 0]) := ⟨rfl, fun q hq => (Hb7.out.cell (p := ⟨b6, 0 + q, none⟩) Hlt6.out).trans (Hn13.out.2 q hq)⟩
                clear hnt htx hbw3
                go_wp2_with (first
                  | (refine wpList_load_node_want (by simp [Region.wanted, yielded]) _ rfl b6 0 _ rfl Hm13.out ?_)
                  | (go_at_call 14; refine Hnt.out.mono ?_; rintro e w8 ⟨⟨t, rfl, ht⟩, hb8⟩; obtain rfl : t = ⟨#[91, 97, 99, 101, 103, 105, 107, 93]⟩ := of_nats (ht.trans Htx.out); have Hb8 := Lib.hid (Hbw3.out.trans (hb8.mono Hbw3.out.size)); clear hb8 ht)
                  | fail)
                go_ret
                exact ⟨rfl, Hb8.out⟩
end Go.Proofs.YtjkhmmdjgancmaaGreatDoor
