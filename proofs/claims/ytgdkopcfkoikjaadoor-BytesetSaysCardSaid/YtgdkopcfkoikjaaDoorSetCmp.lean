/- The walks of bytes.Compare and Cmp. -/
import Derived.Test.YtgdkopcfkoikjaaDoorSetRuns
import Derived.Lib.BytesEntry
import Derived.Lib.Bytealg
import Derived.Deep.RegionWith
import Derived.Deep.DeepMust
namespace Go.Proofs.YtgdkopcfkoikjaaDoor
open Go.RowKit

/-- the order of two lists -/
def cmpNat : List Nat → List Nat → Int
  | [], [] => 0
  | [], _ :: _ => -1
  | _ :: _, [] => 1
  | a :: ar, b :: br => if a < b then -1 else if b < a then 1 else cmpNat ar br
def toBytes (l : List Nat) : List UInt8 := l.map UInt8.ofNat
theorem cmp_bytes : ∀ (a b : List Nat), (∀ x ∈ a, x < 256) → (∀ x ∈ b, x < 256) → Lib.compareBytes (toBytes a) (toBytes b) = cmpNat a b
  | [], [], _, _ => rfl
  | [], _ :: _, _, _ => rfl
  | _ :: _, [], _, _ => rfl
  | a :: ar, b :: br, ha, hb => by
    have h1 : a < 256 := ha a (by simp)
    have h2 : b < 256 := hb b (by simp)
    have e1 : (UInt8.ofNat a < UInt8.ofNat b) = (a < b) := by simp [UInt8.lt_iff_toNat_lt, Nat.mod_eq_of_lt h1, Nat.mod_eq_of_lt h2]
    have e2 : (UInt8.ofNat b < UInt8.ofNat a) = (b < a) := by simp [UInt8.lt_iff_toNat_lt, Nat.mod_eq_of_lt h1, Nat.mod_eq_of_lt h2]
    show (if UInt8.ofNat a < UInt8.ofNat b then (-1 : Int) else if UInt8.ofNat b < UInt8.ofNat a then 1 else Lib.compareBytes (toBytes ar) (toBytes br)) = _
    rw [cmp_bytes ar br (fun x hx => ha x (by simp [hx])) (fun x hx => hb x (by simp [hx])), cmpNat]
    simp only [e1, e2]
theorem cmpNat_range : ∀ (a b : List Nat), cmpNat a b = -1 ∨ cmpNat a b = 0 ∨ cmpNat a b = 1
  | [], [] => by simp [cmpNat]
  | [], _ :: _ => by simp [cmpNat]
  | _ :: _, [] => by simp [cmpNat]
  | a :: ar, b :: br => by
    unfold cmpNat
    split
    · simp
    · split
      · simp
      · exact cmpNat_range ar br
theorem run_bytesOf {P : Program} {w : World} {a : Option Addr} {n cap : Nat} {l : List Nat} (h : BytesAt w a n cap l) : (Extern.Bytes.bytesOf (.slice a n cap)).run P w = .ok ⟨(toBytes l).toArray⟩ w := by
  obtain ⟨hn, hlt, _, hc⟩ := h
  subst hn
  by_cases h0 : l.length = 0
  · have : l = [] := List.length_eq_zero_iff.1 h0
    subst this
    cases a with
    | none => rfl
    | some a => simp [Extern.Bytes.bytesOf, Extern.Bytes.loadBytes, toBytes]; rfl
  · rcases hc with h | ⟨b, off, rfl, _, _, hcell⟩
    · exact absurd h h0
    · have hl : l.length = (l.map (fun x : Nat => (x : Int))).length := by simp
      show (Extern.Bytes.loadBytes ⟨b, off, none⟩ l.length .empty).run P w = _
      rw [hl, Lib.run_loadBytesX]
      · congr 1
        apply ByteArray.ext
        simp [Lib.bytesOf, toBytes]
      · intro j x hx
        rw [List.getElem?_map] at hx
        have hj : j < l.length := by
          by_cases hj : j < l.length
          · exact hj
          · rw [List.getElem?_eq_none (by omega)] at hx; simp at hx
        rw [List.getElem?_eq_getElem hj] at hx
        simp at hx
        subst hx
        have := hcell j hj
        rw [List.getD_eq_getElem?_getD, List.getElem?_eq_getElem hj] at this
        have e : (⟨b, off, none⟩ : Addr).add j = ⟨b, off + j, none⟩ := by
          unfold Addr.add
          split
          · rename_i h; subst h; rfl
          · rfl
        rw [e]
        simpa [u8v] using this
theorem run_compare {P : Program} {w : World} {a1 a2 : Option Addr} {n1 c1 n2 c2 : Nat} {l1 l2 : List Nat} (h1 : BytesAt w a1 n1 c1 l1) (h2 : BytesAt w a2 n2 c2 l2) :
    (Extern.BytealgCompare.compare #[.slice a1 n1 c1, .slice a2 n2 c2]).run P w = .ok (.int .i64 (cmpNat l1 l2)) w := by
  show Sem.run P (do pure (goInt (Extern.BytealgCompare.cmp (← Extern.Bytes.bytesOf (.slice a1 n1 c1)) (← Extern.Bytes.bytesOf (.slice a2 n2 c2))))) w = _
  simp only [Sem.run_bind, Sem.run_pure, run_bytesOf h1, run_bytesOf h2, Result.andThen]
  rw [Lib.cmp_eq]
  simp only [cmp_bytes l1 l2 h1.2.1 h2.2.1]
  rfl
set_option maxHeartbeats 1000000 in
set_option maxRecDepth 100000 in
theorem compare_any (a1 a2 : Option Addr) (n1 c1 n2 c2 : Nat) (l1 l2 : List Nat) (w : World) (h1 : BytesAt w a1 n1 c1 l1) (h2 : BytesAt w a2 n2 c2 l2) :
    Calls Tryd.prog 27 #[.slice a1 n1 c1, .slice a2 n2 c2] w fun e w' => e = .returned (.int .i64 (cmpNat l1 l2)) ∧ w = w' := by
  have hx := fun P => run_compare (P := P) h1 h2
  clear h1 h2
  go_enter Tryd.func27, Tryd.ntmps27
  go_wp2
  rw [run_callFunc_extern Tryd.func30 (by kernel_rfl) (by kernel_rfl) (by kernel_rfl) (e := Extern.BytealgCompare.compare) (by kernel_rfl), hx]
  simp only [Result.andThen]
  rw [Oper.upon_value]
  go_wp2
  go_ret
  exact ⟨rfl, rfl⟩
theorem bytesAt_of_owns {w w' : World} {base : Nat} {a : Option Addr} {cap : Nat} {l : List Nat} (h : w.ownsRow base 5 1 (.slice a l.length cap) l.length (l.map u8v)) (hlt : ∀ x ∈ l, x < 256) (hb : Below w.heap.size w w') :
    BytesAt w' a l.length cap l := by
  have hrow := h.2
  rcases hrow with ⟨hv, h0⟩ | ⟨g, c, cur, hv, hg, hblk, hnc, hcm, _⟩
  · exact ⟨rfl, hlt, by unfold maxLen; omega, .inl h0⟩
  · cases hv
    have hgl := lt_of_block hblk
    refine ⟨rfl, hlt, by omega, .inr ⟨g, 0, rfl, hnc, by have := hb.size; omega, fun j hj => ?_⟩⟩
    rw [Nat.zero_add, hb.cell (p := ⟨g, j, none⟩) hgl, h.cellAt j (by omega), List.getElem?_map, List.getElem?_eq_getElem hj, List.getD_eq_getElem?_getD, List.getElem?_eq_getElem hj]
    rfl
/-- a new list, as whoever reads it wants it told: now, and behind whatever comes that leaves it alone -/
def ListAt (w : World) (l : List Nat) (e : Ending) (w' : World) : Prop :=
  ∃ a cap, e = .returned (.slice a l.length cap) ∧ Below w.heap.size w w' ∧ ∀ w2, Below w'.heap.size w' w2 → BytesAt w2 a l.length cap l
theorem list_at (s : BitVec 256) (w : World) (hT : TabAt 1 Lib.deBruijn64tab w) : Calls Tryd.prog 24 #[SV s] w (ListAt w (elems s)) := by
  refine (list_any s w hT).mono ?_
  rintro e w' ⟨v, rfl, hown, hb⟩
  obtain ⟨a, c, rfl⟩ := owns_form hown
  exact ⟨a, c, rfl, hb, fun w2 h2 => bytesAt_of_owns hown (fun x hx => ((mem_elems s x).1 hx).1) h2⟩
set_option maxHeartbeats 2000000 in
theorem cmp_any (s t : BitVec 256) (w : World) (hT : TabAt 1 Lib.deBruijn64tab w) :
    Calls Tryd.prog 17 #[SV s, SV t] w fun e w' => e = .returned (.int .i64 (cmpNat (elems s) (elems t))) ∧ Below w.heap.size w w' := by
  have hT0 := fun o1 o2 => tab_drew (tab_alloc (tab_alloc hT o1) o2)
  go_enter Tryd.func17, Tryd.ntmps17
  go_wp2_with fail
  go_region_with (first
    | (go_at_call_of 24 (word s 0); go_must (refine (list_at s _ ?_).mono ?_); (first | exact hT0 _ _ | assumption); go_must (rintro e ws ⟨asl, cs, rfl, hbs, hks⟩); obtain ⟨hcs, hfs⟩ := bcell hbs; go_must (have hzs : w.heap.size + 1 < ws.heap.size := (by have := hbs.size; first | omega | (simp at this; omega))); go_must (have hTs := tab_below (by first | exact hT0 _ _ | assumption) hbs (by have h0 := tab_pos hT; first | omega | (simp; done) | (simp; omega))))
    | (go_at_call_of 24 (word t 0); go_must (refine (list_at t _ ?_).mono ?_); (first | exact hT0 _ _ | assumption); rintro e wt ⟨atl, ct, rfl, hbt, hkt⟩; obtain ⟨hct, hft⟩ := bcell hbt; have hzt : w.heap.size + 1 < wt.heap.size := (by have := hbt.size; first | omega | (simp at this; omega)); have hTt := tab_below (by first | exact hT0 _ _ | assumption) hbt (by have h0 := tab_pos hT; first | omega | (simp; done) | (simp; omega)))
    | (go_at_call 27; refine (compare_any _ _ _ _ _ _ (elems s) (elems t) _ ?_ ?_).mono ?_; (first | exact hks _ (Below.refl _ _) | exact hks _ hbt); (first | exact hkt _ (Below.refl _ _) | exact hkt _ hbs); rintro e w3 ⟨rfl, rfl⟩))
  all_goals
    go_wp2
    go_ret
    refine ⟨rfl, ?_⟩
    first
      | (refine Below.trans (Below.trans ?_ (hbs.mono (by simp; omega))) (hbt.mono (by omega)); repeat (first | exact Below.refl _ _ | refine Below.drew ?_ | refine Below.alloc ?_ (by simp; try omega) _))
      | (refine Below.trans (Below.trans ?_ (hbt.mono (by simp; omega))) (hbs.mono (by omega)); repeat (first | exact Below.refl _ _ | refine Below.drew ?_ | refine Below.alloc ?_ (by simp; try omega) _))
end Go.Proofs.YtgdkopcfkoikjaaDoor
