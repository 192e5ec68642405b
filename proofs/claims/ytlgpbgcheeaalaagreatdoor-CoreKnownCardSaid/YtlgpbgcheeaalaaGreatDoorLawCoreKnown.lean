/- The walk of law 8's CoreKnown. -/
import Derived.Test.YtlgpbgcheeaalaaGreatDoorCorePat
import Derived.Test.YtlgpbgcheeaalaaGreatDoorCoreForm
namespace Go.Proofs.YtlgpbgcheeaalaaGreatDoor
open K
set_option maxRecDepth 100000
open Go.RowKit
def k8In : List ByteArray := [⟨#[97]⟩, ⟨#[97, 98, 99]⟩, ⟨#[97, 124, 98, 124, 99]⟩, ⟨#[97, 42]⟩, ⟨#[97, 43]⟩, ⟨#[97, 63]⟩, ⟨#[97, 123, 48, 125]⟩, ⟨#[97, 123, 48, 44, 48, 125]⟩, ⟨#[97, 123, 49, 125]⟩, ⟨#[97, 123, 51, 125]⟩, ⟨#[97, 123, 48, 44, 50, 125]⟩, ⟨#[97, 123, 49, 44, 51, 125]⟩, ⟨#[97, 123, 50, 44, 125]⟩, ⟨#[40, 97, 41, 40, 98, 41]⟩, ⟨#[40, 63, 58, 97, 41]⟩, ⟨#[40, 97, 41, 123, 50, 125]⟩, ⟨#[91, 97, 98, 93]⟩, ⟨#[40, 63, 58, 97, 124, 98, 41, 42]⟩]
def k8Out : List ByteArray := [⟨#[60, 54, 49, 62]⟩, ⟨#[40, 60, 54, 49, 62, 46, 40, 60, 54, 50, 62, 46, 60, 54, 51, 62, 41, 41]⟩, ⟨#[40, 60, 54, 49, 62, 124, 40, 60, 54, 50, 62, 124, 60, 54, 51, 62, 41, 41]⟩, ⟨#[40, 60, 54, 49, 62, 42, 41]⟩, ⟨#[40, 60, 54, 49, 62, 46, 40, 40, 126, 60, 54, 49, 62, 41, 42, 41, 41]⟩, ⟨#[40, 60, 54, 49, 62, 124, 49, 41]⟩, ⟨#[49]⟩, ⟨#[49]⟩, ⟨#[60, 54, 49, 62]⟩, ⟨#[40, 60, 54, 49, 62, 46, 40, 40, 126, 60, 54, 49, 62, 41, 46, 40, 126, 60, 54, 49, 62, 41, 41, 41]⟩, ⟨#[40, 40, 60, 54, 49, 62, 46, 40, 40, 126, 60, 54, 49, 62, 41, 124, 49, 41, 41, 124, 49, 41]⟩, ⟨#[40, 60, 54, 49, 62, 46, 40, 40, 40, 126, 60, 54, 49, 62, 41, 46, 40, 40, 126, 60, 54, 49, 62, 41, 124, 49, 41, 41, 124, 49, 41, 41]⟩, ⟨#[40, 60, 54, 49, 62, 46, 40, 40, 126, 60, 54, 49, 62, 41, 46, 40, 40, 126, 60, 54, 49, 62, 41, 42, 41, 41, 41]⟩, ⟨#[40, 40, 49, 58, 60, 54, 49, 62, 41, 46, 40, 50, 58, 60, 54, 50, 62, 41, 41]⟩, ⟨#[60, 54, 49, 62]⟩, ⟨#[40, 40, 49, 58, 60, 54, 49, 62, 41, 46, 40, 126, 40, 49, 58, 60, 54, 49, 62, 41, 41, 41]⟩, ⟨#[60, 54, 49, 54, 50, 62]⟩, ⟨#[40, 40, 60, 54, 49, 62, 124, 60, 54, 50, 62, 41, 42, 41]⟩]
theorem known8_texts : ∀ k, k < 18 → lawText (nats (k8In.getD k ⟨#[]⟩)) = nats (k8Out.getD k ⟨#[]⟩) := by decide +kernel
theorem known8_large : lawText [40, 63, 58, 97, 123, 50, 48, 48, 125, 41, 123, 50, 48, 48, 125] = [108, 97, 114, 103, 101] := by decide +kernel
def bad8 (A : BitVec 256) : List Cr := [.mk 8 0 0 [], .mk (-1) 0 0 [], .mk 3 0 0 [], .mk 1 0 1 [], .mk 6 0 0 [zeroC], .mk 6 0 33 [zeroC], .mk 5 0 0 [zeroC, zeroC], .mk 0 A 0 []]
theorem bad8_all : ∀ x ∈ bad8 (setOf [97]), goodC x = false := by decide +kernel
def grp8 : Cr := .mk 3 0 0 [.mk 6 0 2 [zeroC], .mk 6 0 2 [.mk 6 0 1 [zeroC]]]
theorem grp8_facts : goodC grp8 = true ∧ groupsC grp8 = [2, 1] := by decide +kernel
theorem small8 : goodC zeroC = true ∧ textC zeroC = [48] ∧ goodC (.mk 2 0 0 []) = true ∧ textC (.mk 2 0 0 []) = [60, 62] ∧ sizeOfC (.mk 5 0 0 [zeroC]) = 2 := by decide +kernel
theorem node8_bad : validN (.mk 0 0 0 0 0 []) = false := by decide +kernel
theorem node8_zero : ofC (.mk 0 0 0 0 0 []) = (zeroC, 1) := by unfold ofC; rw [node8_bad]; rfl
theorem strs8_at {w : World} {t : TypeId} (l : List ByteArray) : ∀ k, k < l.length → (w.alloc (.cells (l.map Value.string).toArray t)).cell? ⟨w.heap.size, k, none⟩ = some (.string (l.getD k ⟨#[]⟩)) := by
  intro k hk
  rw [World.cell?_alloc_at _ _ _ _ rfl]
  simp [List.getElem?_map, List.getElem?_eq_getElem hk, List.getD_eq_getElem?_getD]
theorem zero8_at (w : World) : Nd.at w (.mk 0 0 0 0 0 []) [.int .i64 0, .int .u64 0, .int .u64 0, .int .u64 0, .int .u64 0, .int .i64 0, .int .i64 0, .int .i64 0, .slice none 0 0] := by
  rw [Go.Proofs.YtlgpbgcheeaalaaGreatDoor.at_mk]
  exact ⟨by rfl, by rfl, by rfl, by rfl, none, 0, by simp only [word_zero]; rfl, by simp, .inl rfl⟩
theorem plain8 (W : World) {k n : Int} (hk : fits64 k) (hn : fits64 n) : Cr.at W (.mk k 0 n []) [.int .i64 k, .int .u64 0, .int .u64 0, .int .u64 0, .int .u64 0, .int .i64 n, .slice none 0 0] := by
  have h := K.at_plain (W := W) 0 hk hn
  simp only [word_zero] at h
  exact h
theorem made8 {W : World} {b : Nat} {k n : Int} (hk : fits64 k) (hn : fits64 n) (L : List (Cr × List Value)) (hL : L.length ≤ maxLen) (h : ∀ p ∈ L, Cr.at W p.1 p.2) (hb : W.heap[b]? = some (.cells (L.flatMap (·.2)).toArray 30)) {m : Nat} (hm : m = L.length) :
    Cr.at W (.mk k 0 n (L.map (·.1))) [.int .i64 k, .int .u64 0, .int .u64 0, .int .u64 0, .int .u64 0, .int .i64 n, .slice (some ⟨b, 0, none⟩) m m] := by subst hm; exact K.at_made hk hn L hL h hb
theorem text_none {x : Cr} {cs : List Value} {w : World} (hat : Cr.at w x cs) (hg : goodC x = false) (hT : TabAt 0 Lib.deBruijn64tab w) : Calls Tryz.prog 12 #[.agg cs.toArray] w fun e w' => e = .returned (.string ⟨#[]⟩) ∧ Below w.heap.size w w' :=
  (text_walk hat hT).mono fun _ _ h => by
    obtain ⟨⟨t, h1, h2⟩, h3⟩ := h
    have he : textC x = [] := by unfold textC; rw [hg]; rfl
    exact ⟨by rw [h1, of_nats8 (t := t) (u := ⟨#[]⟩) (by rw [h2, he]; rfl)], h3⟩
theorem text_is {x : Cr} {cs : List Value} {w : World} (hat : Cr.at w x cs) {u : ByteArray} (hu : textC x = nats u) (hT : TabAt 0 Lib.deBruijn64tab w) : Calls Tryz.prog 12 #[.agg cs.toArray] w fun e w' => e = .returned (.string u) ∧ Below w.heap.size w w' :=
  (text_walk hat hT).mono fun _ _ h => by
    obtain ⟨⟨t, h1, h2⟩, h3⟩ := h
    exact ⟨by rw [h1, of_nats8 (t := t) (u := u) (by rw [h2, hu])], h3⟩
theorem text8_is (s u : ByteArray) (h : lawText (nats s) = nats u) (w : World) (hT : TabAt 0 Lib.deBruijn64tab w) (hM : MaxAt w) : Calls Tryz.prog 9 #[.string s] w fun e w' => e = .returned (.string u) ∧ Below w.heap.size w w' :=
  (text8_walk s w hT hM).mono fun _ _ h' => by
    obtain ⟨⟨t, h1, h2⟩, h3⟩ := h'
    exact ⟨by rw [h1, of_nats8 (t := t) (u := u) (by rw [h2, h])], h3⟩
theorem row8_two {w : World} {base : Nat} {a : Option Addr} {cap : Nat} {u v : Value} (h : w.ownsRow base 3 1 (.slice a 2 cap) 2 [u, v]) :
    ∃ g, a = some ⟨g, 0, none⟩ ∧ g < w.heap.size ∧ w.cell? ⟨g, 0, none⟩ = some u ∧ w.cell? ⟨g, 1, none⟩ = some v := by
  obtain ⟨_, h⟩ := h
  rcases h with ⟨h1, h2⟩ | ⟨g, cap', cur, h1, _, h3, h4, _, h6, h7⟩
  · cases h2
  · injection h1 with h1 _ _
    have hlt : g < w.heap.size := by
      by_cases hg : g < w.heap.size
      · exact hg
      · rw [Array.getElem?_eq_none (by omega)] at h3; cases h3
    have q0 : cur.toList[0]? = some u := by
      have h := congrArg (·[0]?) h7
      simpa [List.getElem?_take] using h
    have q1 : cur.toList[1]? = some v := by
      have h := congrArg (·[1]?) h7
      simpa [List.getElem?_take] using h
    rw [Array.getElem?_toList] at q0 q1
    refine ⟨g, h1, hlt, ?_, ?_⟩
    · simp only [World.cell?, h3]; simpa using q0
    · simp only [World.cell?, h3]; simpa using q1
set_option maxHeartbeats 16000000 in
theorem coreKnown_walk (w : World) (hT : TabAt 0 Lib.deBruijn64tab w) (hM : MaxAt w) : Calls Tryz.prog 3 #[] w fun e w' => e = .returned (.bool true) ∧ Below w.heap.size w w' := by
  have HT := Lib.hid (fun (w' : World) (hb : Below w.heap.size w w') => (⟨tab_below hT hb (tab_pos hT), maxAt_below hM hb⟩ : TabAt 0 Lib.deBruijn64tab w' ∧ MaxAt w'))
  have haw := awake8_any w hT hM
  have Haw := Lib.hid haw
  obtain ⟨A, hA⟩ : ∃ A, A = setOf [97] := ⟨_, rfl⟩
  have hof := fun (a : Option Addr) (cap : Nat) (w : World) h => of_any a 1 cap [97] w h
  rw [← hA] at hof
  have Hof := Lib.hid hof
  have HA := Lib.hid hA
  clear haw hT hM hof hA
  go_enter Tryz.func3, Tryz.ntmps3
  go_wp2_with fail
  refine Haw.out.mono ?_
  rintro e w1 ⟨rfl, hb1⟩
  obtain ⟨W1, hW1⟩ : ∃ W1, W1 = (w1.alloc (.cells #[.string ⟨#[97]⟩, .string ⟨#[97, 98, 99]⟩, .string ⟨#[97, 124, 98, 124, 99]⟩, .string ⟨#[97, 42]⟩, .string ⟨#[97, 43]⟩, .string ⟨#[97, 63]⟩, .string ⟨#[97, 123, 48, 125]⟩, .string ⟨#[97, 123, 48, 44, 48, 125]⟩, .string ⟨#[97, 123, 49, 125]⟩, .string ⟨#[97, 123, 51, 125]⟩, .string ⟨#[97, 123, 48, 44, 50, 125]⟩, .string ⟨#[97, 123, 49, 44, 51, 125]⟩, .string ⟨#[97, 123, 50, 44, 125]⟩, .string ⟨#[40, 97, 41, 40, 98, 41]⟩, .string ⟨#[40, 63, 58, 97, 41]⟩, .string ⟨#[40, 97, 41, 123, 50, 125]⟩, .string ⟨#[91, 97, 98, 93]⟩, .string ⟨#[40, 63, 58, 97, 124, 98, 41, 42]⟩] 9)).alloc (.cells #[.string ⟨#[60, 54, 49, 62]⟩, .string ⟨#[40, 60, 54, 49, 62, 46, 40, 60, 54, 50, 62, 46, 60, 54, 51, 62, 41, 41]⟩, .string ⟨#[40, 60, 54, 49, 62, 124, 40, 60, 54, 50, 62, 124, 60, 54, 51, 62, 41, 41]⟩, .string ⟨#[40, 60, 54, 49, 62, 42, 41]⟩, .string ⟨#[40, 60, 54, 49, 62, 46, 40, 40, 126, 60, 54, 49, 62, 41, 42, 41, 41]⟩, .string ⟨#[40, 60, 54, 49, 62, 124, 49, 41]⟩, .string ⟨#[49]⟩, .string ⟨#[49]⟩, .string ⟨#[60, 54, 49, 62]⟩, .string ⟨#[40, 60, 54, 49, 62, 46, 40, 40, 126, 60, 54, 49, 62, 41, 46, 40, 126, 60, 54, 49, 62, 41, 41, 41]⟩, .string ⟨#[40, 40, 60, 54, 49, 62, 46, 40, 40, 126, 60, 54, 49, 62, 41, 124, 49, 41, 41, 124, 49, 41]⟩, .string ⟨#[40, 60, 54, 49, 62, 46, 40, 40, 40, 126, 60, 54, 49, 62, 41, 46, 40, 40, 126, 60, 54, 49, 62, 41, 124, 49, 41, 41, 124, 49, 41, 41]⟩, .string ⟨#[40, 60, 54, 49, 62, 46, 40, 40, 126, 60, 54, 49, 62, 41, 46, 40, 40, 126, 60, 54, 49, 62, 41, 42, 41, 41, 41]⟩, .string ⟨#[40, 40, 49, 58, 60, 54, 49, 62, 41, 46, 40, 50, 58, 60, 54, 50, 62, 41, 41]⟩, .string ⟨#[60, 54, 49, 62]⟩, .string ⟨#[40, 40, 49, 58, 60, 54, 49, 62, 41, 46, 40, 126, 40, 49, 58, 60, 54, 49, 62, 41, 41, 41]⟩, .string ⟨#[60, 54, 49, 54, 50, 62]⟩, .string ⟨#[40, 40, 60, 54, 49, 62, 124, 60, 54, 50, 62, 41, 42, 41]⟩] 9) := ⟨_, rfl⟩
  have hb2 : Below w1.heap.size w1 W1 := by rw [hW1]; exact (alloc_below w1 _).alloc (by simp) _
  have f1 : ∀ k, k < 18 → W1.cell? ⟨w1.heap.size, k, none⟩ = some (.string (k8In.getD k ⟨#[]⟩)) := fun k hk => by
    rw [hW1, (alloc_below (w1.alloc _) _).cell (p := ⟨w1.heap.size, k, none⟩) (by simp)]
    exact strs8_at k8In k hk
  have f2 : ∀ k, k < 18 → W1.cell? ⟨w1.heap.size + 1, k, none⟩ = some (.string (k8Out.getD k ⟨#[]⟩)) := fun k hk => by
    have h := strs8_at (w := w1.alloc (.cells #[.string ⟨#[97]⟩, .string ⟨#[97, 98, 99]⟩, .string ⟨#[97, 124, 98, 124, 99]⟩, .string ⟨#[97, 42]⟩, .string ⟨#[97, 43]⟩, .string ⟨#[97, 63]⟩, .string ⟨#[97, 123, 48, 125]⟩, .string ⟨#[97, 123, 48, 44, 48, 125]⟩, .string ⟨#[97, 123, 49, 125]⟩, .string ⟨#[97, 123, 51, 125]⟩, .string ⟨#[97, 123, 48, 44, 50, 125]⟩, .string ⟨#[97, 123, 49, 44, 51, 125]⟩, .string ⟨#[97, 123, 50, 44, 125]⟩, .string ⟨#[40, 97, 41, 40, 98, 41]⟩, .string ⟨#[40, 63, 58, 97, 41]⟩, .string ⟨#[40, 97, 41, 123, 50, 125]⟩, .string ⟨#[91, 97, 98, 93]⟩, .string ⟨#[40, 63, 58, 97, 124, 98, 41, 42]⟩] 9)) (t := 9) k8Out k hk
    rw [World.size_alloc] at h
    rw [hW1]
    exact h
  have F := Lib.hid (And.intro f1 f2)
  have Hb1 := Lib.hid (hb1.trans (hb2.mono hb1.size))
  have hs1 : W1.heap.size = w1.heap.size + 2 := by rw [hW1]; simp
  clear hb1 hb2 f1 f2 Haw
  go_upto_region 5 with fail
  rw [← hW1]
  clear hW1
  go_wp2_with fail
  go_loopw [3] (fun i wr => ∃ k : Nat, k ≤ 18 ∧ i = .int .i64 (k : Int) ∧ Hid (Below W1.heap.size W1 wr)) (fun i _ => 18 - (intOf i).toNat)
  case atStart => exact ⟨0, by decide, rfl, Below.refl _ _⟩
  case round =>
    obtain ⟨k, hk, rfl, hr⟩ := hrel
    by_cases hk18 : k < 18
    · have hd : decide ((k : Int) < 18) = true := by simp; omega
      have hd2 : decide (k < 18) = true := decide_eq_true hk18
      have hd3 : (k : Int) < 18 := by omega
      have g1 : ∀ L : Later wr, L.val.cell? ⟨w1.heap.size, k, none⟩ = some (.string (k8In.getD k ⟨#[]⟩)) := fun L => (L.cell ⟨w1.heap.size, k, none⟩ (by have := hr.out.size; simp; omega)).trans ((hr.out.cell (p := ⟨w1.heap.size, k, none⟩) (by simp; omega)).trans (F.out.1 k hk18))
      have g2 : ∀ L : Later wr, L.val.cell? ⟨w1.heap.size + 1, k, none⟩ = some (.string (k8Out.getD k ⟨#[]⟩)) := fun L => (L.cell ⟨w1.heap.size + 1, k, none⟩ (by have := hr.out.size; simp; omega)).trans ((hr.out.cell (p := ⟨w1.heap.size + 1, k, none⟩) (by simp; omega)).trans (F.out.2 k hk18))
      have htx := fun L : Later wr => text8_is _ _ (known8_texts k hk18) L.val (HT.out _ ((Hb1.out.trans (hr.out.mono Hb1.out.size)).trans (L.ok.mono (Hb1.out.trans (hr.out.mono Hb1.out.size)).size))).1 (HT.out _ ((Hb1.out.trans (hr.out.mono Hb1.out.size)).trans (L.ok.mono (Hb1.out.trans (hr.out.mono Hb1.out.size)).size))).2
      generalize k8In.getD k ⟨#[]⟩ = sI at *
      generalize k8Out.getD k ⟨#[]⟩ = sO at *
      have Htx := Lib.hid htx
      have hne := Later.nonempty wr
      clear htx hs1
      go_wp2_with fail
      refine wp_region_later (W0 := wr) (Below.refl _ _) (by kernel_rfl) (by as_aux_lemma => kernel_rfl) ?_
      iterate 4 (go_big_quiet_step (fail))
      go_big_quiet_step (exact Later.calls (Htx.out _))
      iterate 5 (go_big_quiet_step (fail))
      refine wpQuiet_nil ?_
      intro w' hw'
      obtain ⟨L', rfl⟩ := hw'
      have HL := Lib.hid (hr.out.trans (L'.ok.mono hr.out.size))
      clear g1 g2 Htx
      go_wp2_with fail
      go_roundw
      case rel => exact ⟨k + 1, by omega, by go_num, HL.out⟩
      case measure => (simp [intOf] <;> omega)
    · obtain rfl : k = 18 := by omega
      have hbr := Hb1.out.trans (hr.out.mono Hb1.out.size)
      have Hbr := Lib.hid hbr
      clear hr F hbr hs1 hk18 hk
      have hd : decide (((18 : Nat) : Int) < 18) = false := by simp
      go_wp2_with fail
      obtain ⟨WA, hWA⟩ : ∃ WA, WA = ((wr.alloc (.cells #[.int .i64 0, .int .u64 0, .int .u64 0, .int .u64 0, .int .u64 0, .int .i64 0, .slice none 0 0] 30)).alloc (.cells #[.int .i64 0, .int .u64 0, .int .u64 0, .int .u64 0, .int .u64 0, .int .i64 0, .slice none 0 0] 30)).alloc (.cells #[.int .i64 0, .int .u64 0, .int .u64 0, .int .u64 0, .int .u64 0, .int .i64 0, .slice none 0 0, .int .i64 0, .int .u64 0, .int .u64 0, .int .u64 0, .int .u64 0, .int .i64 0, .slice none 0 0] 30) := ⟨_, rfl⟩
      have sA : WA.heap.size = wr.heap.size + 1 + 1 + 1 := by rw [hWA]; simp
      have bA : Below wr.heap.size wr WA := by rw [hWA]; exact ((alloc_below wr _).alloc (by simp) _).alloc (by simp; omega) _
      have a1 : CoreIn WA wr.heap.size #[.int .i64 0, .int .u64 0, .int .u64 0, .int .u64 0, .int .u64 0, .int .i64 0, .slice none 0 0] := by
        rw [hWA]; exact (Below.heap_alloc _ _ _ (by simp; omega)).trans ((Below.heap_alloc _ _ _ (by simp)).trans (World.alloc_heap_new wr _))
      have a2 : CoreIn WA (wr.heap.size + 1) #[.int .i64 0, .int .u64 0, .int .u64 0, .int .u64 0, .int .u64 0, .int .i64 0, .slice none 0 0] := by
        have h := World.alloc_heap_new (wr.alloc (.cells #[.int .i64 0, .int .u64 0, .int .u64 0, .int .u64 0, .int .u64 0, .int .i64 0, .slice none 0 0] 30)) (.cells #[.int .i64 0, .int .u64 0, .int .u64 0, .int .u64 0, .int .u64 0, .int .i64 0, .slice none 0 0] 30)
        rw [World.size_alloc] at h
        rw [hWA]; exact (Below.heap_alloc _ _ _ (by simp)).trans h
      have a3 : CoreIn WA (wr.heap.size + 1 + 1) #[.int .i64 0, .int .u64 0, .int .u64 0, .int .u64 0, .int .u64 0, .int .i64 0, .slice none 0 0, .int .i64 0, .int .u64 0, .int .u64 0, .int .u64 0, .int .u64 0, .int .i64 0, .slice none 0 0] := by
        have h := World.alloc_heap_new ((wr.alloc (.cells #[.int .i64 0, .int .u64 0, .int .u64 0, .int .u64 0, .int .u64 0, .int .i64 0, .slice none 0 0] 30)).alloc (.cells #[.int .i64 0, .int .u64 0, .int .u64 0, .int .u64 0, .int .u64 0, .int .i64 0, .slice none 0 0] 30)) (.cells #[.int .i64 0, .int .u64 0, .int .u64 0, .int .u64 0, .int .u64 0, .int .i64 0, .slice none 0 0, .int .i64 0, .int .u64 0, .int .u64 0, .int .u64 0, .int .u64 0, .int .i64 0, .slice none 0 0] 30)
        rw [World.size_alloc, World.size_alloc] at h
        rw [hWA]; exact h
      refine (Hof.out _ _ _ (bytesAt_new [97] (by decide) (by decide) rfl (by simp) rfl (by decide))).mono ?_
      rintro e w5 ⟨rfl, hb5⟩
      rw [← hWA] at hb5
      have b5 : Below WA.heap.size WA w5 := (alloc_below WA _).trans (hb5.mono (by simp))
      rw [show SV A = .agg #[.int .u64 (word A 0), .int .u64 (word A 1), .int .u64 (word A 2), .int .u64 (word A 3)] from rfl]
      obtain ⟨W6, hW6⟩ : ∃ W6, W6 = w5.alloc (.cells #[.int .i64 8, .int .u64 0, .int .u64 0, .int .u64 0, .int .u64 0, .int .i64 0, .slice none 0 0, .int .i64 (-1), .int .u64 0, .int .u64 0, .int .u64 0, .int .u64 0, .int .i64 0, .slice none 0 0, .int .i64 3, .int .u64 0, .int .u64 0, .int .u64 0, .int .u64 0, .int .i64 0, .slice none 0 0, .int .i64 1, .int .u64 0, .int .u64 0, .int .u64 0, .int .u64 0, .int .i64 1, .slice none 0 0, .int .i64 6, .int .u64 0, .int .u64 0, .int .u64 0, .int .u64 0, .int .i64 0, .slice (some ⟨wr.heap.size, 0, none⟩) 1 1, .int .i64 6, .int .u64 0, .int .u64 0, .int .u64 0, .int .u64 0, .int .i64 33, .slice (some ⟨wr.heap.size + 1, 0, none⟩) 1 1, .int .i64 5, .int .u64 0, .int .u64 0, .int .u64 0, .int .u64 0, .int .i64 0, .slice (some ⟨wr.heap.size + 1 + 1, 0, none⟩) 2 2, .int .i64 0, .int .u64 (word A 0), .int .u64 (word A 1), .int .u64 (word A 2), .int .u64 (word A 3), .int .i64 0, .slice none 0 0] 30) := ⟨_, rfl⟩
      have b6 : Below w5.heap.size w5 W6 := by rw [hW6]; exact alloc_below w5 _
      have bW : Below WA.heap.size WA W6 := b5.trans (b6.mono b5.size)
      have hcores : coresAt W6 (bad8 A) w5.heap.size 0 := by
        refine K.coresAt_cells [((Cr.mk 8 0 0 [] : Cr), [.int .i64 8, .int .u64 0, .int .u64 0, .int .u64 0, .int .u64 0, .int .i64 0, .slice none 0 0]), ((Cr.mk (-1) 0 0 [] : Cr), [.int .i64 (-1), .int .u64 0, .int .u64 0, .int .u64 0, .int .u64 0, .int .i64 0, .slice none 0 0]), ((Cr.mk 3 0 0 [] : Cr), [.int .i64 3, .int .u64 0, .int .u64 0, .int .u64 0, .int .u64 0, .int .i64 0, .slice none 0 0]), ((Cr.mk 1 0 1 [] : Cr), [.int .i64 1, .int .u64 0, .int .u64 0, .int .u64 0, .int .u64 0, .int .i64 1, .slice none 0 0]), ((Cr.mk 6 0 0 [zeroC] : Cr), [.int .i64 6, .int .u64 0, .int .u64 0, .int .u64 0, .int .u64 0, .int .i64 0, .slice (some ⟨wr.heap.size, 0, none⟩) 1 1]), ((Cr.mk 6 0 33 [zeroC] : Cr), [.int .i64 6, .int .u64 0, .int .u64 0, .int .u64 0, .int .u64 0, .int .i64 33, .slice (some ⟨wr.heap.size + 1, 0, none⟩) 1 1]), ((Cr.mk 5 0 0 [zeroC, zeroC] : Cr), [.int .i64 5, .int .u64 0, .int .u64 0, .int .u64 0, .int .u64 0, .int .i64 0, .slice (some ⟨wr.heap.size + 1 + 1, 0, none⟩) 2 2]), ((Cr.mk 0 A 0 [] : Cr), [.int .i64 0, .int .u64 (word A 0), .int .u64 (word A 1), .int .u64 (word A 2), .int .u64 (word A 3), .int .i64 0, .slice none 0 0])] 0 ?_ (fun q _ => by
          have h : W6.heap[w5.heap.size]? = some (.cells (([((Cr.mk 8 0 0 [] : Cr), [.int .i64 8, .int .u64 0, .int .u64 0, .int .u64 0, .int .u64 0, .int .i64 0, .slice none 0 0]), ((Cr.mk (-1) 0 0 [] : Cr), [.int .i64 (-1), .int .u64 0, .int .u64 0, .int .u64 0, .int .u64 0, .int .i64 0, .slice none 0 0]), ((Cr.mk 3 0 0 [] : Cr), [.int .i64 3, .int .u64 0, .int .u64 0, .int .u64 0, .int .u64 0, .int .i64 0, .slice none 0 0]), ((Cr.mk 1 0 1 [] : Cr), [.int .i64 1, .int .u64 0, .int .u64 0, .int .u64 0, .int .u64 0, .int .i64 1, .slice none 0 0]), ((Cr.mk 6 0 0 [zeroC] : Cr), [.int .i64 6, .int .u64 0, .int .u64 0, .int .u64 0, .int .u64 0, .int .i64 0, .slice (some ⟨wr.heap.size, 0, none⟩) 1 1]), ((Cr.mk 6 0 33 [zeroC] : Cr), [.int .i64 6, .int .u64 0, .int .u64 0, .int .u64 0, .int .u64 0, .int .i64 33, .slice (some ⟨wr.heap.size + 1, 0, none⟩) 1 1]), ((Cr.mk 5 0 0 [zeroC, zeroC] : Cr), [.int .i64 5, .int .u64 0, .int .u64 0, .int .u64 0, .int .u64 0, .int .i64 0, .slice (some ⟨wr.heap.size + 1 + 1, 0, none⟩) 2 2]), ((Cr.mk 0 A 0 [] : Cr), [.int .i64 0, .int .u64 (word A 0), .int .u64 (word A 1), .int .u64 (word A 2), .int .u64 (word A 3), .int .i64 0, .slice none 0 0])] : List (Cr × List Value)).flatMap (·.2)).toArray 30) := by rw [hW6]; exact World.alloc_heap_new w5 _
          simp only [World.cell?, h, Nat.zero_add]
          simp)
        simp only [List.forall_mem_cons]
        have hz : ∀ p ∈ [((zeroC : Cr), ([.int .i64 0, .int .u64 0, .int .u64 0, .int .u64 0, .int .u64 0, .int .i64 0, .slice none 0 0] : List Value))], Cr.at W6 p.1 p.2 := by
          intro p hp; rw [List.mem_singleton] at hp; subst hp; exact plain8 W6 rfl rfl
        have hzz : ∀ p ∈ [((zeroC : Cr), ([.int .i64 0, .int .u64 0, .int .u64 0, .int .u64 0, .int .u64 0, .int .i64 0, .slice none 0 0] : List Value)), (zeroC, [.int .i64 0, .int .u64 0, .int .u64 0, .int .u64 0, .int .u64 0, .int .i64 0, .slice none 0 0])], Cr.at W6 p.1 p.2 := by
          intro p hp
          have hp2 : p = (zeroC, [.int .i64 0, .int .u64 0, .int .u64 0, .int .u64 0, .int .u64 0, .int .i64 0, .slice none 0 0]) := by simpa using hp
          subst hp2; exact plain8 W6 rfl rfl
        exact ⟨plain8 W6 rfl rfl, plain8 W6 rfl rfl, plain8 W6 rfl rfl, plain8 W6 rfl rfl, made8 (k := 6) (n := 0) rfl rfl [(zeroC, [.int .i64 0, .int .u64 0, .int .u64 0, .int .u64 0, .int .u64 0, .int .i64 0, .slice none 0 0])] (by decide) hz (core_later bW a1) rfl, made8 (k := 6) (n := 33) rfl rfl [(zeroC, [.int .i64 0, .int .u64 0, .int .u64 0, .int .u64 0, .int .u64 0, .int .i64 0, .slice none 0 0])] (by decide) hz (core_later bW a2) rfl, made8 (k := 5) (n := 0) rfl rfl [(zeroC, [.int .i64 0, .int .u64 0, .int .u64 0, .int .u64 0, .int .u64 0, .int .i64 0, .slice none 0 0]), (zeroC, [.int .i64 0, .int .u64 0, .int .u64 0, .int .u64 0, .int .u64 0, .int .i64 0, .slice none 0 0])] (by decide) hzz (core_later bW a3) rfl, K.at_plain A rfl rfl, fun p hp => by cases hp⟩
      have Hcores := Lib.hid hcores
      have hwa := Hbr.out.trans (bA.mono Hbr.out.size)
      have Hb6 := Lib.hid (hwa.trans (bW.mono hwa.size))
      clear hwa bW b6 b5 hb5 a1 a2 a3 bA sA hWA hcores Hof
      go_upto_region 11 with fail
      rw [← hW6]
      clear hW6
      go_wp2_with fail
      go_loopw [5] (fun i wq => ∃ k : Nat, k ≤ 8 ∧ i = .int .i64 (k : Int) ∧ Hid (Below W6.heap.size W6 wq)) (fun i _ => 8 - (intOf i).toNat)
      case atStart => exact ⟨0, by decide, rfl, Below.refl _ _⟩
      case round =>
        obtain ⟨k, hk, rfl, hr⟩ := hrel
        have hbq := Hb6.out.trans (hr.out.mono Hb6.out.size)
        have Hbq := Lib.hid hbq
        clear hbq
        by_cases hk8 : k < 8
        · have hd : decide ((k : Int) < 8) = true := by simp; omega
          have hd2 : decide (k < 8) = true := decide_eq_true hk8
          have hd3 : (k : Int) < 8 := by omega
          have hlen : k < (bad8 A).length := hk8
          have hbad : goodC (bad8 A)[k] = false := bad8_all _ (by rw [← HA.out]; exact List.getElem_mem hlen)
          obtain ⟨cs, hcl, hcell, hat⟩ := K.nodes_get W6 w5.heap.size (bad8 A) 0 Hcores.out k hlen
          have hltb : w5.heap.size < W6.heap.size := by
            have h := hcell 0 (by decide)
            rw [List.getElem?_eq_getElem (by omega)] at h
            exact World.block_lt_of_cell? W6 _ h
          have h7 : ∀ w' : World, Below W6.heap.size W6 w' → Core7 w' w5.heap.size (k * 7) cs := fun w' hw => ⟨hcl, fun q hq => by
            have h := hcell q hq
            rw [Nat.zero_add] at h
            rw [hw.cell (p := ⟨w5.heap.size, k * 7 + q, none⟩) hltb]; exact h⟩
          have hgd := fun (w' : World) (hw : Below W6.heap.size W6 w') => K.good_walk (Cr.at_below hw (Nat.le_refl _) _ _ hat)
          rw [hbad] at hgd
          have htx := fun (w' : World) (hw : Below W6.heap.size W6 w') => text_none (Cr.at_below hw (Nat.le_refl _) _ _ hat) hbad (HT.out _ (Hb6.out.trans (hw.mono Hb6.out.size))).1
          obtain ⟨kq, sq, nq, aq, lenq, capq, rfl⟩ := K.at_lit hat
          have H7 := Lib.hid h7
          have Hgd := Lib.hid hgd
          have Htx := Lib.hid htx
          clear h7 hgd htx hcl hcell hat hltb hbad hlen
          go_wp2_with (first | (refine wpList_load_core rfl _ rfl w5.heap.size (k * 7) _ rfl (H7.out _ hr.out) ?_) | fail)
          refine (Hgd.out _ hr.out).mono ?_
          rintro e wg ⟨rfl, hbg⟩
          have Hbg := Lib.hid (hr.out.trans (hbg.mono hr.out.size))
          clear hbg
          go_wp2_with (first | (refine K.wpList_load_node_want rfl _ rfl w5.heap.size (k * 7) _ rfl (H7.out _ Hbg.out) ?_) | fail)
          refine (Htx.out _ Hbg.out).mono ?_
          rintro e wh ⟨rfl, hbh⟩
          have Hbh := Lib.hid (Hbg.out.trans (hbh.mono Hbg.out.size))
          clear hbh
          go_wp2_with fail
          go_roundw
          case rel => exact ⟨k + 1, by omega, by go_num, Hbh.out⟩
          case measure => (simp [intOf] <;> omega)
        · obtain rfl : k = 8 := by omega
          have hd : decide (((8 : Nat) : Int) < 8) = false := by simp
          have hof8 := fun w' : World => ofC_walk (zero8_at w')
          simp only [node8_zero] at hof8
          have Hof8 := Lib.hid hof8
          clear hof8 hr Hcores hk8 hk
          go_wp2_with fail
          refine (Hof8.out _).mono ?_
          rintro e w8 ⟨ds, rfl, hin, hb8⟩
          obtain ⟨k4, s4, n4, a4, len4, cap4, rfl⟩ := hin.lit
          have Hb8 := Lib.hid (Hbq.out.trans (hb8.mono Hbq.out.size))
          clear hb8 hin Hof8
          go_wp2_with (first | (refine wpList_store_core rfl _ _ rfl w8.heap.size #[.int .i64 0, .int .u64 0, .int .u64 0, .int .u64 0, .int .u64 0, .int .i64 0, .slice none 0 0] #[.int .i64 k4, .int .u64 (word s4 0), .int .u64 (word s4 1), .int .u64 (word s4 2), .int .u64 (word s4 3), .int .i64 n4, .slice a4 len4 cap4] rfl rfl (World.alloc_heap_new w8 _) rfl rfl (by simp [Value.oneCell']) ?_; intro w9 hs ho; have Hb9 := Lib.hid (Hb8.out.trans ((ho.below (alloc_below w8 _) (Nat.le_refl _)).mono Hb8.out.size)); clear hs ho) | fail)
          clear HA
          obtain ⟨Wt, hWt⟩ : ∃ Wt, Wt = (((w9.alloc (.cells #[.int .i64 0, .int .u64 0, .int .u64 0, .int .u64 0, .int .u64 0, .int .i64 0, .slice none 0 0] 30)).alloc (.cells #[.int .i64 0, .int .u64 0, .int .u64 0, .int .u64 0, .int .u64 0, .int .i64 0, .slice none 0 0] 30)).alloc (.cells #[.int .i64 6, .int .u64 0, .int .u64 0, .int .u64 0, .int .u64 0, .int .i64 1, .slice (some ⟨w9.heap.size + 1, 0, none⟩) 1 1] 30)).alloc (.cells #[.int .i64 6, .int .u64 0, .int .u64 0, .int .u64 0, .int .u64 0, .int .i64 2, .slice (some ⟨w9.heap.size, 0, none⟩) 1 1, .int .i64 6, .int .u64 0, .int .u64 0, .int .u64 0, .int .u64 0, .int .i64 2, .slice (some ⟨w9.heap.size + 1 + 1, 0, none⟩) 1 1] 30) := ⟨_, rfl⟩
          have t0 : CoreIn Wt w9.heap.size #[.int .i64 0, .int .u64 0, .int .u64 0, .int .u64 0, .int .u64 0, .int .i64 0, .slice none 0 0] := by
            rw [hWt]; exact (Below.heap_alloc _ _ _ (by simp <;> omega)).trans ((Below.heap_alloc _ _ _ (by simp <;> omega)).trans ((Below.heap_alloc _ _ _ (by simp)).trans (World.alloc_heap_new w9 _)))
          have t1 : CoreIn Wt (w9.heap.size + 1) #[.int .i64 0, .int .u64 0, .int .u64 0, .int .u64 0, .int .u64 0, .int .i64 0, .slice none 0 0] := by
            have h := World.alloc_heap_new (w9.alloc (.cells #[.int .i64 0, .int .u64 0, .int .u64 0, .int .u64 0, .int .u64 0, .int .i64 0, .slice none 0 0] 30)) (.cells #[.int .i64 0, .int .u64 0, .int .u64 0, .int .u64 0, .int .u64 0, .int .i64 0, .slice none 0 0] 30)
            rw [World.size_alloc] at h
            rw [hWt]; exact (Below.heap_alloc _ _ _ (by simp <;> omega)).trans ((Below.heap_alloc _ _ _ (by simp)).trans h)
          have t2 : CoreIn Wt (w9.heap.size + 1 + 1) #[.int .i64 6, .int .u64 0, .int .u64 0, .int .u64 0, .int .u64 0, .int .i64 1, .slice (some ⟨w9.heap.size + 1, 0, none⟩) 1 1] := by
            have h := World.alloc_heap_new ((w9.alloc (.cells #[.int .i64 0, .int .u64 0, .int .u64 0, .int .u64 0, .int .u64 0, .int .i64 0, .slice none 0 0] 30)).alloc (.cells #[.int .i64 0, .int .u64 0, .int .u64 0, .int .u64 0, .int .u64 0, .int .i64 0, .slice none 0 0] 30)) (.cells #[.int .i64 6, .int .u64 0, .int .u64 0, .int .u64 0, .int .u64 0, .int .i64 1, .slice (some ⟨w9.heap.size + 1, 0, none⟩) 1 1] 30)
            rw [World.size_alloc, World.size_alloc] at h
            rw [hWt]; exact (Below.heap_alloc _ _ _ (by simp)).trans h
          have t3 : CoreIn Wt (w9.heap.size + 1 + 1 + 1) #[.int .i64 6, .int .u64 0, .int .u64 0, .int .u64 0, .int .u64 0, .int .i64 2, .slice (some ⟨w9.heap.size, 0, none⟩) 1 1, .int .i64 6, .int .u64 0, .int .u64 0, .int .u64 0, .int .u64 0, .int .i64 2, .slice (some ⟨w9.heap.size + 1 + 1, 0, none⟩) 1 1] := by
            have h := World.alloc_heap_new (((w9.alloc (.cells #[.int .i64 0, .int .u64 0, .int .u64 0, .int .u64 0, .int .u64 0, .int .i64 0, .slice none 0 0] 30)).alloc (.cells #[.int .i64 0, .int .u64 0, .int .u64 0, .int .u64 0, .int .u64 0, .int .i64 0, .slice none 0 0] 30)).alloc (.cells #[.int .i64 6, .int .u64 0, .int .u64 0, .int .u64 0, .int .u64 0, .int .i64 1, .slice (some ⟨w9.heap.size + 1, 0, none⟩) 1 1] 30)) (.cells #[.int .i64 6, .int .u64 0, .int .u64 0, .int .u64 0, .int .u64 0, .int .i64 2, .slice (some ⟨w9.heap.size, 0, none⟩) 1 1, .int .i64 6, .int .u64 0, .int .u64 0, .int .u64 0, .int .u64 0, .int .i64 2, .slice (some ⟨w9.heap.size + 1 + 1, 0, none⟩) 1 1] 30)
            rw [World.size_alloc, World.size_alloc, World.size_alloc] at h
            rw [hWt]; exact h
          have hbt : Below w9.heap.size w9 Wt := by rw [hWt]; exact (((alloc_below w9 _).alloc (by simp) _).alloc (by simp <;> omega) _).alloc (by simp <;> omega) _
          have Hbt := Lib.hid (Hb9.out.trans (hbt.mono Hb9.out.size))
          have hz : ∀ p ∈ [((zeroC : Cr), ([.int .i64 0, .int .u64 0, .int .u64 0, .int .u64 0, .int .u64 0, .int .i64 0, .slice none 0 0] : List Value))], Cr.at Wt p.1 p.2 := by
            intro p hp; rw [List.mem_singleton] at hp; subst hp; exact plain8 Wt rfl rfl
          have m1 := made8 (k := 6) (n := 2) rfl rfl [(zeroC, [.int .i64 0, .int .u64 0, .int .u64 0, .int .u64 0, .int .u64 0, .int .i64 0, .slice none 0 0])] (by decide) hz t0 (m := 1) rfl
          have m2 := made8 (k := 6) (n := 1) rfl rfl [(zeroC, [.int .i64 0, .int .u64 0, .int .u64 0, .int .u64 0, .int .u64 0, .int .i64 0, .slice none 0 0])] (by decide) hz t1 (m := 1) rfl
          have hm2 : ∀ p ∈ [((Cr.mk 6 0 1 [zeroC] : Cr), ([.int .i64 6, .int .u64 0, .int .u64 0, .int .u64 0, .int .u64 0, .int .i64 1, .slice (some ⟨w9.heap.size + 1, 0, none⟩) 1 1] : List Value))], Cr.at Wt p.1 p.2 := by
            intro p hp; rw [List.mem_singleton] at hp; subst hp; exact m2
          have m3 := made8 (k := 6) (n := 2) rfl rfl [(Cr.mk 6 0 1 [zeroC], [.int .i64 6, .int .u64 0, .int .u64 0, .int .u64 0, .int .u64 0, .int .i64 1, .slice (some ⟨w9.heap.size + 1, 0, none⟩) 1 1])] (by show 1 ≤ maxLen; decide) hm2 t2 (m := 1) rfl
          have hm3 : ∀ p ∈ [((Cr.mk 6 0 2 [zeroC] : Cr), ([.int .i64 6, .int .u64 0, .int .u64 0, .int .u64 0, .int .u64 0, .int .i64 2, .slice (some ⟨w9.heap.size, 0, none⟩) 1 1] : List Value)), (Cr.mk 6 0 2 [.mk 6 0 1 [zeroC]], [.int .i64 6, .int .u64 0, .int .u64 0, .int .u64 0, .int .u64 0, .int .i64 2, .slice (some ⟨w9.heap.size + 1 + 1, 0, none⟩) 1 1])], Cr.at Wt p.1 p.2 := by
            simp only [List.forall_mem_cons]
            exact ⟨m1, m3, fun p hp => by cases hp⟩
          have m4 := made8 (k := 3) (n := 0) rfl rfl [(Cr.mk 6 0 2 [zeroC], [.int .i64 6, .int .u64 0, .int .u64 0, .int .u64 0, .int .u64 0, .int .i64 2, .slice (some ⟨w9.heap.size, 0, none⟩) 1 1]), (Cr.mk 6 0 2 [.mk 6 0 1 [zeroC]], [.int .i64 6, .int .u64 0, .int .u64 0, .int .u64 0, .int .u64 0, .int .i64 2, .slice (some ⟨w9.heap.size + 1 + 1, 0, none⟩) 1 1])] (by show 2 ≤ maxLen; decide) hm3 t3 (m := 2) rfl
          rw [← hWt]
          have hgr : Calls Tryz.prog 14 #[.agg #[.int .i64 3, .int .u64 0, .int .u64 0, .int .u64 0, .int .u64 0, .int .i64 0, .slice (some ⟨w9.heap.size + 1 + 1 + 1, 0, none⟩) 2 2]] Wt fun e w' => ∃ a cap, e = .returned (.slice a 2 cap) ∧ w'.ownsRow Wt.heap.size 3 1 (.slice a 2 cap) 2 [.int .i64 2, .int .i64 1] ∧ Below Wt.heap.size Wt w' := by
            have h := K.groups_walk (x := grp8) m4 grp8_facts.1
            rw [grp8_facts.2] at h
            exact h
          clear m1 m2 m3 m4 hm2 hm3 hz t0 t1 t2 t3 hbt
          refine hgr.mono ?_
          rintro e wg ⟨ag, capg, rfl, hown, hbg⟩
          obtain ⟨gb, rfl, hle, c0, c1⟩ := row8_two hown
          have Hbg := Lib.hid (Hbt.out.trans (hbg.mono Hbt.out.size))
          clear hgr hown hbg hWt Hbt Hb9 Hb8 Hbq Hb6 Hbr Hb1
          go_wp2_with fail
          refine (text8_is ⟨#[40, 63, 58, 97, 123, 50, 48, 48, 125, 41, 123, 50, 48, 48, 125]⟩ ⟨#[108, 97, 114, 103, 101]⟩ known8_large _ (HT.out _ Hbg.out).1 (HT.out _ Hbg.out).2).mono ?_
          rintro e wa ⟨rfl, hba⟩
          have Hba := Lib.hid (Hbg.out.trans (hba.mono Hbg.out.size))
          have d0 := (hba.cell (p := ⟨gb, 0, none⟩) hle).trans c0
          have d1 := (hba.cell (p := ⟨gb, 1, none⟩) hle).trans c1
          have hla := Nat.lt_of_lt_of_le hle hba.size
          clear c0 c1 hba Hbg hle
          have hgz := fun w' : World => K.good_walk (plain8 w' (k := 0) (n := 0) rfl rfl)
          have htz := fun (w' : World) hT => text_is (plain8 w' (k := 0) (n := 0) rfl rfl) (u := ⟨#[48]⟩) small8.2.1 hT
          have hg2 := fun w' : World => K.good_walk (plain8 w' (k := 2) (n := 0) rfl rfl)
          have ht2 := fun (w' : World) hT => text_is (plain8 w' (k := 2) (n := 0) rfl rfl) (u := ⟨#[60, 62]⟩) small8.2.2.2.1 hT
          rw [show goodC (.mk 0 0 0 []) = true from small8.1] at hgz
          rw [small8.2.2.1] at hg2
          have Hgz := Lib.hid hgz
          have Htz := Lib.hid htz
          have Hg2 := Lib.hid hg2
          have Ht2 := Lib.hid ht2
          clear hgz htz hg2 ht2
          go_wp2_with fail
          refine (Hgz.out _).mono ?_
          rintro e wb ⟨rfl, hbb⟩
          have Hbb := Lib.hid (Hba.out.trans (hbb.mono Hba.out.size))
          replace d0 := (hbb.cell (p := ⟨gb, 0, none⟩) hla).trans d0
          replace d1 := (hbb.cell (p := ⟨gb, 1, none⟩) hla).trans d1
          have hlb := Nat.lt_of_lt_of_le hla hbb.size
          clear hbb Hgz hla
          go_wp2_with fail
          refine (Htz.out _ (HT.out _ Hbb.out).1).mono ?_
          rintro e wc ⟨rfl, hbc⟩
          have Hbc := Lib.hid (Hbb.out.trans (hbc.mono Hbb.out.size))
          replace d0 := (hbc.cell (p := ⟨gb, 0, none⟩) hlb).trans d0
          replace d1 := (hbc.cell (p := ⟨gb, 1, none⟩) hlb).trans d1
          have hlc := Nat.lt_of_lt_of_le hlb hbc.size
          clear hbc Htz hlb
          go_wp2_with fail
          refine (Hg2.out _).mono ?_
          rintro e wd ⟨rfl, hbd⟩
          have Hbd := Lib.hid (Hbc.out.trans (hbd.mono Hbc.out.size))
          replace d0 := (hbd.cell (p := ⟨gb, 0, none⟩) hlc).trans d0
          replace d1 := (hbd.cell (p := ⟨gb, 1, none⟩) hlc).trans d1
          have hld := Nat.lt_of_lt_of_le hlc hbd.size
          clear hbd Hg2 hlc
          go_wp2_with fail
          refine (Ht2.out _ (HT.out _ Hbd.out).1).mono ?_
          rintro e we ⟨rfl, hbe⟩
          have Hbe := Lib.hid (Hbd.out.trans (hbe.mono Hbd.out.size))
          replace d0 := (hbe.cell (p := ⟨gb, 0, none⟩) hld).trans d0
          replace d1 := (hbe.cell (p := ⟨gb, 1, none⟩) hld).trans d1
          clear hbe Ht2 hld
          go_wp2_with fail
          have hz2 : ∀ p ∈ [((zeroC : Cr), ([.int .i64 0, .int .u64 0, .int .u64 0, .int .u64 0, .int .u64 0, .int .i64 0, .slice none 0 0] : List Value))], Cr.at (we.alloc (.cells #[.int .i64 0, .int .u64 0, .int .u64 0, .int .u64 0, .int .u64 0, .int .i64 0, .slice none 0 0] 30)) p.1 p.2 := by
            intro p hp; rw [List.mem_singleton] at hp; subst hp; exact plain8 _ rfl rfl
          have hsz := K.size_walk (made8 (k := 5) (n := 0) rfl rfl [(zeroC, [.int .i64 0, .int .u64 0, .int .u64 0, .int .u64 0, .int .u64 0, .int .i64 0, .slice none 0 0])] (by decide) hz2 (World.alloc_heap_new we _) (m := 1) rfl)
          rw [show sizeOfC (.mk 5 0 0 ([((zeroC : Cr), ([.int .i64 0, .int .u64 0, .int .u64 0, .int .u64 0, .int .u64 0, .int .i64 0, .slice none 0 0] : List Value))].map (·.1))) = 2 from small8.2.2.2.2] at hsz
          refine hsz.mono ?_
          rintro e wf ⟨rfl, hbf⟩
          have Hfin := Lib.hid (Hbe.out.trans (((alloc_below we _).trans (hbf.mono (by simp))).mono Hbe.out.size))
          clear hz2 hsz hbf d0 d1
          go_wp2_with fail
          go_ret
          exact ⟨rfl, Hfin.out⟩
end Go.Proofs.YtlgpbgcheeaalaaGreatDoor
