/- The walk of law 8's CoreRows. -/
import Derived.Test.YtlgpbgcheeaalaaGreatDoorCoreThree
import Derived.Test.YtlgpbgcheeaalaaGreatDoorRowsMath
import Derived.Test.YtlgpbgcheeaalaaGreatDoorEager
namespace Go.Proofs.YtlgpbgcheeaalaaGreatDoor
open K
set_option maxRecDepth 100000
open Go.RowKit
/-- what parse.Of hands back, the pattern's cells written out -/
def PatAny (w : World) (r : PO) (e : Ending) (w' : World) : Prop :=
  ∃ (st en : Bool) (k : Int) (s : BitVec 256) (lo hi n : Int) (a : Option Addr) (len cap : Nat) (g m E : Int), e = .returned (.tuple #[.agg #[.bool st, .bool en, .int .i64 k, .int .u64 (word s 0), .int .u64 (word s 1), .int .u64 (word s 2), .int .u64 (word s 3), .int .i64 lo, .int .i64 hi, .int .i64 n, .slice a len cap, .int .i64 g], .int .i64 m, .int .i64 E]) ∧
    Below w.heap.size w w' ∧ Hid (match r with
      | .err _ e' => E = e'
      | .ok st' en' x g' => E = 0 ∧ st = st' ∧ en = en' ∧ g = (g' : Int) ∧ Nd.at w' x [.int .i64 k, .int .u64 (word s 0), .int .u64 (word s 1), .int .u64 (word s 2), .int .u64 (word s 3), .int .i64 lo, .int .i64 hi, .int .i64 n, .slice a len cap])
theorem parse_any (s : ByteArray) (w : World) (hM : MaxAt w) : Calls Tryz.prog 30 #[.string s] w (PatAny w (ofP cls (nats s))) := by
  refine (of_walk s w hM).mono fun e w' h => ?_
  cases hr : ofP cls (nats s) with
  | err k e' =>
    rw [hr] at h
    obtain ⟨h1, h2⟩ := h
    refine ⟨false, false, 0, 0, 0, 0, 0, none, 0, 0, 0, k, e', ?_, h2, rfl⟩
    rw [h1]
    simp only [word_zero]
    rfl
  | ok st en x g =>
    rw [hr] at h
    obtain ⟨cs, h1, h2, h3⟩ := h
    obtain ⟨k, s', lo, hi, n, a, len, cap, rfl⟩ := Nd.lit h2
    exact ⟨st, en, k, s', lo, hi, n, a, len, cap, (g : Int), _, 0, h1, h3, rfl, rfl, rfl, rfl, h2⟩
theorem pat_cells8 {W : World} {b : Nat} {c0 c1 c2 c3 c4 c5 c6 c7 c8 c9 c10 c11 : Value} (h : PatIn W b #[c0, c1, c2, c3, c4, c5, c6, c7, c8, c9, c10, c11]) : W.cell? ⟨b, 0, none⟩ = some c0 ∧ W.cell? ⟨b, 1, none⟩ = some c1 ∧ W.cell? ⟨b, 11, none⟩ = some c11 := by
  refine ⟨?_, ?_, ?_⟩ <;> (rw [cells_at h]; rfl)
theorem bracket_ok8 {q : List Nat} {X Y : Nd} {g h : Nat} {st en : Bool} (hx : ofP cls q = .ok false false X g) (hl : q.length ≤ 1020) (hr : ofP cls (40 :: 63 :: 58 :: (q ++ [41])) = .ok st en Y h) : st = false ∧ en = false ∧ Y = .mk 6 0 0 0 0 [X] ∧ h = g := by
  rw [of_bracket hx hl] at hr
  split at hr
  · injection hr with h1 h2 h3 h4
    exact ⟨h1.symm, h2.symm, h3.symm, h4.symm⟩
  · cases hr
theorem of_few {q : List Nat} {st en : Bool} {X : Nd} {g : Nat} (h : ofP cls q = .ok st en X g) : (g : Int) ≤ 32 := by
  have hg := of_good8 h
  unfold goodP at hg
  simp only [Bool.and_eq_true] at hg
  have h3 := hg.2
  cases hf : X.form 1 with
  | none => rw [hf] at h3; cases h3
  | some m => rw [hf] at h3; simp at h3; omega
theorem core_two (k k' : Int) (X Y : Nd) (h : (k = 2 ∧ k' = 3) ∨ (k = 3 ∧ k' = 4)) : Nd.core (.mk k 0 0 0 0 [X, Y]) = .mk k' 0 0 [Nd.core X, Nd.core Y] := by
  rw [core_mk, cores_cons, cores_cons, cores_nil]
  rcases h with ⟨rfl, rfl⟩ | ⟨rfl, rfl⟩
  · rw [if_neg (by decide), if_pos rfl]; rfl
  · rw [if_neg (by decide), if_neg (by decide), if_pos rfl]; rfl
theorem row_at {W : World} {g : Nat} {k : Int} (hk : fits64 k) {x y : Cr} {cs ds : List Value} (hx : Cr.at W x cs) (hy : Cr.at W y ds) (hb : W.heap[g]? = some (.cells (cs ++ ds).toArray 30)) :
    Cr.at W (.mk k 0 0 [x, y]) [.int .i64 k, .int .u64 0, .int .u64 0, .int .u64 0, .int .u64 0, .int .i64 0, .slice (some ⟨g, 0, none⟩) 2 2] := by
  have h := K.at_made (n := 0) hk rfl [(x, cs), (y, ds)] (by simp [maxLen]) (by
    intro p hp
    rcases List.mem_cons.1 hp with rfl | hp
    · exact hx
    · rw [List.mem_singleton] at hp; subst hp; exact hy) (by rw [show ([(x, cs), (y, ds)] : List (Cr × List Value)).flatMap (·.2) = cs ++ ds from by simp]; exact hb)
  simpa using h
set_option maxHeartbeats 16000000 in
theorem coreRows_walk (a b : ByteArray) (w : World) (hT : TabAt 0 Lib.deBruijn64tab w) (hM : MaxAt w) :
    Calls Tryz.prog 6 #[.string a, .string b] w fun e w' => e = .returned (.bool true) ∧ Below w.heap.size w w' := by
  have haw := awake8_any w hT hM
  have Haw := Lib.hid haw
  have HM := Lib.hid hM
  clear haw hT hM
  by_cases hla : 40 < a.size
  · have hd : decide ((a.size : Int) > 40) = true := by simp; omega
    have hd2 : decide ((40 : Int) < a.size) = true := by simp; omega
    go_enter Tryz.func6, Tryz.ntmps6
    go_wp2_with fail
    refine Haw.out.mono ?_
    rintro e w1 ⟨rfl, hb1⟩
    have Hb1 := Lib.hid hb1
    clear hb1
    go_wp2_with fail
    go_ret
    exact ⟨rfl, Hb1.out⟩
  by_cases hlb : 40 < b.size
  · have hd : decide ((a.size : Int) > 40) = false := by simp; omega
    have hd2 : decide ((40 : Int) < a.size) = false := by simp; omega
    have he : decide ((b.size : Int) > 40) = true := by simp; omega
    have he2 : decide ((40 : Int) < b.size) = true := by simp; omega
    go_enter Tryz.func6, Tryz.ntmps6
    go_wp2_with fail
    refine Haw.out.mono ?_
    rintro e w1 ⟨rfl, hb1⟩
    have Hb1 := Lib.hid hb1
    clear hb1
    go_wp2_with fail
    go_ret
    exact ⟨rfl, Hb1.out⟩
  have hd : decide ((a.size : Int) > 40) = false := by simp; omega
  have hd2 : decide ((40 : Int) < a.size) = false := by simp; omega
  have he : decide ((b.size : Int) > 40) = false := by simp; omega
  have he2 : decide ((40 : Int) < b.size) = false := by simp; omega
  have hsa : (a.size : Int) ≤ 40 := by omega
  have hsb : (b.size : Int) ≤ 40 := by omega
  have hna : (nats a).length ≤ 40 := by rw [nats_length]; omega
  have hnb : (nats b).length ≤ 40 := by rw [nats_length]; omega
  have Hn := Lib.hid (And.intro hna hnb)
  clear hla hlb hna hnb
  obtain ⟨q, hq⟩ : ∃ q, q = nats a := ⟨_, rfl⟩
  obtain ⟨t, ht⟩ : ∃ t, t = nats b := ⟨_, rfl⟩
  rw [← hq, ← ht] at Hn
  have hnU : nats a = q := hq.symm
  have hpU := fun (w' : World) (hm : MaxAt w') => parse_any a w' hm
  rw [hnU] at hpU
  obtain ⟨rU, hrU⟩ : ∃ r, r = ofP cls q := ⟨_, rfl⟩
  rw [← hrU] at hpU
  have HpU := Lib.hid hpU
  have HrU := Lib.hid hrU
  clear hnU hpU hrU
  have hnV : nats b = t := ht.symm
  have hpV := fun (w' : World) (hm : MaxAt w') => parse_any b w' hm
  rw [hnV] at hpV
  obtain ⟨rV, hrV⟩ : ∃ r, r = ofP cls t := ⟨_, rfl⟩
  rw [← hrV] at hpV
  have HpV := Lib.hid hpV
  have HrV := Lib.hid hrV
  clear hnV hpV hrV
  have hnX : nats (((⟨#[40, 63, 58]⟩ : ByteArray) ++ a) ++ (⟨#[41]⟩ : ByteArray)) = (40 :: 63 :: 58 :: (q ++ [41])) := by simp only [nats_add, ← hq]; rfl
  have hpX := fun (w' : World) (hm : MaxAt w') => parse_any (((⟨#[40, 63, 58]⟩ : ByteArray) ++ a) ++ (⟨#[41]⟩ : ByteArray)) w' hm
  rw [hnX] at hpX
  obtain ⟨rX, hrX⟩ : ∃ r, r = ofP cls (40 :: 63 :: 58 :: (q ++ [41])) := ⟨_, rfl⟩
  rw [← hrX] at hpX
  have HpX := Lib.hid hpX
  have HrX := Lib.hid hrX
  clear hnX hpX hrX
  have hnY : nats (((⟨#[40, 63, 58]⟩ : ByteArray) ++ b) ++ (⟨#[41]⟩ : ByteArray)) = (40 :: 63 :: 58 :: (t ++ [41])) := by simp only [nats_add, ← ht]; rfl
  have hpY := fun (w' : World) (hm : MaxAt w') => parse_any (((⟨#[40, 63, 58]⟩ : ByteArray) ++ b) ++ (⟨#[41]⟩ : ByteArray)) w' hm
  rw [hnY] at hpY
  obtain ⟨rY, hrY⟩ : ∃ r, r = ofP cls (40 :: 63 :: 58 :: (t ++ [41])) := ⟨_, rfl⟩
  rw [← hrY] at hpY
  have HpY := Lib.hid hpY
  have HrY := Lib.hid hrY
  clear hnY hpY hrY
  have hnZ : nats (((((⟨#[40, 63, 58]⟩ : ByteArray) ++ a) ++ (⟨#[41, 40, 63, 58]⟩ : ByteArray)) ++ b) ++ (⟨#[41]⟩ : ByteArray)) = (40 :: 63 :: 58 :: (q ++ [41]) ++ 40 :: 63 :: 58 :: (t ++ [41])) := by simp only [nats_add, ← hq, ← ht]; simp [nats]
  have hpZ := fun (w' : World) (hm : MaxAt w') => parse_any (((((⟨#[40, 63, 58]⟩ : ByteArray) ++ a) ++ (⟨#[41, 40, 63, 58]⟩ : ByteArray)) ++ b) ++ (⟨#[41]⟩ : ByteArray)) w' hm
  rw [hnZ] at hpZ
  obtain ⟨rZ, hrZ⟩ : ∃ r, r = ofP cls (40 :: 63 :: 58 :: (q ++ [41]) ++ 40 :: 63 :: 58 :: (t ++ [41])) := ⟨_, rfl⟩
  rw [← hrZ] at hpZ
  have HpZ := Lib.hid hpZ
  have HrZ := Lib.hid hrZ
  clear hnZ hpZ hrZ
  have hnS : nats (((((⟨#[40, 63, 58]⟩ : ByteArray) ++ a) ++ (⟨#[41, 124, 40, 63, 58]⟩ : ByteArray)) ++ b) ++ (⟨#[41]⟩ : ByteArray)) = ((40 :: 63 :: 58 :: (q ++ [41])) ++ 124 :: (40 :: 63 :: 58 :: (t ++ [41]))) := by simp only [nats_add, ← hq, ← ht]; simp [nats]
  have hpS := fun (w' : World) (hm : MaxAt w') => parse_any (((((⟨#[40, 63, 58]⟩ : ByteArray) ++ a) ++ (⟨#[41, 124, 40, 63, 58]⟩ : ByteArray)) ++ b) ++ (⟨#[41]⟩ : ByteArray)) w' hm
  rw [hnS] at hpS
  obtain ⟨rS, hrS⟩ : ∃ r, r = ofP cls ((40 :: 63 :: 58 :: (q ++ [41])) ++ 124 :: (40 :: 63 :: 58 :: (t ++ [41]))) := ⟨_, rfl⟩
  rw [← hrS] at hpS
  have HpS := Lib.hid hpS
  have HrS := Lib.hid hrS
  clear hnS hpS hrS
  clear hq ht
  go_enter Tryz.func6, Tryz.ntmps6
  go_wp2_with fail
  refine Haw.out.mono ?_
  rintro e wA ⟨rfl, hbA⟩
  have HB_w_wA := Lib.hid (hbA)
  clear hbA Haw
  go_wp2_with fail
  refine (HpU.out wA (maxAt_below HM.out HB_w_wA.out)).mono ?_
  rintro e wU ⟨stU, enU, kU, sU, loU, hiU, nU, aU, lenU, capU, gU, mU, EU, rfl, hb', hr'⟩
  have HRU := hr'
  obtain ⟨WU, hWU⟩ : ∃ WU, WU = wU.alloc (.cells #[.bool stU, .bool enU, .int .i64 kU, .int .u64 (word sU 0), .int .u64 (word sU 1), .int .u64 (word sU 2), .int .u64 (word sU 3), .int .i64 loU, .int .i64 hiU, .int .i64 nU, .slice aU lenU capU, .int .i64 gU] 70) := ⟨_, rfl⟩
  have hal : Below wU.heap.size wU WU := by rw [hWU]; exact K.alloc_below wU _
  have HPU := Lib.hid (show PatIn WU wU.heap.size #[.bool stU, .bool enU, .int .i64 kU, .int .u64 (word sU 0), .int .u64 (word sU 1), .int .u64 (word sU 2), .int .u64 (word sU 3), .int .i64 loU, .int .i64 hiU, .int .i64 nU, .slice aU lenU capU, .int .i64 gU] from by rw [hWU]; exact pat_new wU _)
  have HAU := Lib.hid hal
  have HB_wA_WU := Lib.hid (hb'.trans (hal.mono hb'.size))
  have HB_w_WU := Lib.hid (HB_w_wA.out.trans (HB_wA_WU.out.mono HB_w_wA.out.size))
  clear hb' hr' hal
  go_upto_region 6 with fail
  rw [← hWU]
  clear hWU
  go_wp2_with fail
  refine (HpV.out WU (maxAt_below HM.out HB_w_WU.out)).mono ?_
  rintro e wV ⟨stV, enV, kV, sV, loV, hiV, nV, aV, lenV, capV, gV, mV, EV, rfl, hb', hr'⟩
  have HRV := hr'
  obtain ⟨WV, hWV⟩ : ∃ WV, WV = wV.alloc (.cells #[.bool stV, .bool enV, .int .i64 kV, .int .u64 (word sV 0), .int .u64 (word sV 1), .int .u64 (word sV 2), .int .u64 (word sV 3), .int .i64 loV, .int .i64 hiV, .int .i64 nV, .slice aV lenV capV, .int .i64 gV] 70) := ⟨_, rfl⟩
  have hal : Below wV.heap.size wV WV := by rw [hWV]; exact K.alloc_below wV _
  have HPV := Lib.hid (show PatIn WV wV.heap.size #[.bool stV, .bool enV, .int .i64 kV, .int .u64 (word sV 0), .int .u64 (word sV 1), .int .u64 (word sV 2), .int .u64 (word sV 3), .int .i64 loV, .int .i64 hiV, .int .i64 nV, .slice aV lenV capV, .int .i64 gV] from by rw [hWV]; exact pat_new wV _)
  have HAV := Lib.hid hal
  have HB_WU_WV := Lib.hid (hb'.trans (hal.mono hb'.size))
  have HB_w_WV := Lib.hid (HB_w_WU.out.trans (HB_WU_WV.out.mono HB_w_WU.out.size))
  have HB_wA_WV := Lib.hid (HB_wA_WU.out.trans (HB_WU_WV.out.mono HB_wA_WU.out.size))
  clear hb' hr' hal
  go_upto_region 7 with fail
  rw [← hWV]
  clear hWV
  obtain ⟨bU0, bU1, bU11⟩ := pat_cells8 (pat_keep HPU.out HB_WU_WV.out)
  obtain ⟨bV0, bV1, bV11⟩ := pat_cells8 (pat_keep HPV.out (Below.refl _ _))
  rcases hc' : rU with ⟨kk, e'⟩ | ⟨st', en', X0, cU⟩
  · rw [hc'] at HRU
    have he' : EU = e' := HRU.out
    have hz : ¬ EU = 0 := by rw [he']; exact of_err (HrU.out.symm.trans hc')
    have hne : (EU != 0) = true := by simpa using hz
    clear he' hz hc'
    go_wp2_with fail
    go_ret
    exact ⟨rfl, HB_w_WV.out⟩
  rw [hc'] at HRU
  have HCU := Lib.hid (HrU.out.symm.trans hc')
  obtain ⟨h1, h2, h3, h4, h5⟩ := HRU.out
  subst h1 h2 h3 h4
  have HATU := Lib.hid h5
  clear h5 HRU hc'
  rcases hc' : rV with ⟨kk, e'⟩ | ⟨st', en', Y0, cV⟩
  · rw [hc'] at HRV
    have he' : EV = e' := HRV.out
    have hz : ¬ EV = 0 := by rw [he']; exact of_err (HrV.out.symm.trans hc')
    have hne : (EV != 0) = true := by simpa using hz
    clear he' hz hc'
    go_wp2_with fail
    go_ret
    exact ⟨rfl, HB_w_WV.out⟩
  rw [hc'] at HRV
  have HCV := Lib.hid (HrV.out.symm.trans hc')
  obtain ⟨h1, h2, h3, h4, h5⟩ := HRV.out
  subst h1 h2 h3 h4
  have HATV := Lib.hid h5
  clear h5 HRV hc'
  cases stU
  case true =>
    go_wp2_with fail
    go_ret
    exact ⟨rfl, HB_w_WV.out⟩
  cases enU
  case true =>
    go_wp2_with fail
    go_ret
    exact ⟨rfl, HB_w_WV.out⟩
  cases stV
  case true =>
    go_wp2_with fail
    go_ret
    exact ⟨rfl, HB_w_WV.out⟩
  cases enV
  case true =>
    go_wp2_with fail
    go_ret
    exact ⟨rfl, HB_w_WV.out⟩
  go_wp2_with fail
  clear bU0 bU1 bU11 bV0 bV1 bV11
  refine (HpX.out WV (maxAt_below HM.out HB_w_WV.out)).mono ?_
  rintro e wX ⟨stX, enX, kX, sX, loX, hiX, nX, aX, lenX, capX, gX, mX, EX, rfl, hb', hr'⟩
  have HRX := hr'
  obtain ⟨WX, hWX⟩ : ∃ WX, WX = wX.alloc (.cells #[.bool stX, .bool enX, .int .i64 kX, .int .u64 (word sX 0), .int .u64 (word sX 1), .int .u64 (word sX 2), .int .u64 (word sX 3), .int .i64 loX, .int .i64 hiX, .int .i64 nX, .slice aX lenX capX, .int .i64 gX] 70) := ⟨_, rfl⟩
  have hal : Below wX.heap.size wX WX := by rw [hWX]; exact K.alloc_below wX _
  have HPX := Lib.hid (show PatIn WX wX.heap.size #[.bool stX, .bool enX, .int .i64 kX, .int .u64 (word sX 0), .int .u64 (word sX 1), .int .u64 (word sX 2), .int .u64 (word sX 3), .int .i64 loX, .int .i64 hiX, .int .i64 nX, .slice aX lenX capX, .int .i64 gX] from by rw [hWX]; exact pat_new wX _)
  have HAX := Lib.hid hal
  have HB_WV_WX := Lib.hid (hb'.trans (hal.mono hb'.size))
  have HB_w_WX := Lib.hid (HB_w_WV.out.trans (HB_WV_WX.out.mono HB_w_WV.out.size))
  have HB_wA_WX := Lib.hid (HB_wA_WV.out.trans (HB_WV_WX.out.mono HB_wA_WV.out.size))
  have HB_WU_WX := Lib.hid (HB_WU_WV.out.trans (HB_WV_WX.out.mono HB_WU_WV.out.size))
  clear hb' hr' hal
  go_upto_region 10 with fail
  rw [← hWX]
  clear hWX
  go_wp2_with fail
  refine (HpY.out WX (maxAt_below HM.out HB_w_WX.out)).mono ?_
  rintro e wY ⟨stY, enY, kY, sY, loY, hiY, nY, aY, lenY, capY, gY, mY, EY, rfl, hb', hr'⟩
  have HRY := hr'
  obtain ⟨WY, hWY⟩ : ∃ WY, WY = wY.alloc (.cells #[.bool stY, .bool enY, .int .i64 kY, .int .u64 (word sY 0), .int .u64 (word sY 1), .int .u64 (word sY 2), .int .u64 (word sY 3), .int .i64 loY, .int .i64 hiY, .int .i64 nY, .slice aY lenY capY, .int .i64 gY] 70) := ⟨_, rfl⟩
  have hal : Below wY.heap.size wY WY := by rw [hWY]; exact K.alloc_below wY _
  have HPY := Lib.hid (show PatIn WY wY.heap.size #[.bool stY, .bool enY, .int .i64 kY, .int .u64 (word sY 0), .int .u64 (word sY 1), .int .u64 (word sY 2), .int .u64 (word sY 3), .int .i64 loY, .int .i64 hiY, .int .i64 nY, .slice aY lenY capY, .int .i64 gY] from by rw [hWY]; exact pat_new wY _)
  have HAY := Lib.hid hal
  have HB_WX_WY := Lib.hid (hb'.trans (hal.mono hb'.size))
  have HB_w_WY := Lib.hid (HB_w_WX.out.trans (HB_WX_WY.out.mono HB_w_WX.out.size))
  have HB_wA_WY := Lib.hid (HB_wA_WX.out.trans (HB_WX_WY.out.mono HB_wA_WX.out.size))
  have HB_WU_WY := Lib.hid (HB_WU_WX.out.trans (HB_WX_WY.out.mono HB_WU_WX.out.size))
  have HB_WV_WY := Lib.hid (HB_WV_WX.out.trans (HB_WX_WY.out.mono HB_WV_WX.out.size))
  clear hb' hr' hal
  go_upto_region 11 with fail
  rw [← hWY]
  clear hWY
  go_wp2_with fail
  refine (HpZ.out WY (maxAt_below HM.out HB_w_WY.out)).mono ?_
  rintro e wZ ⟨stZ, enZ, kZ, sZ, loZ, hiZ, nZ, aZ, lenZ, capZ, gZ, mZ, EZ, rfl, hb', hr'⟩
  have HRZ := hr'
  obtain ⟨WZ, hWZ⟩ : ∃ WZ, WZ = wZ.alloc (.cells #[.bool stZ, .bool enZ, .int .i64 kZ, .int .u64 (word sZ 0), .int .u64 (word sZ 1), .int .u64 (word sZ 2), .int .u64 (word sZ 3), .int .i64 loZ, .int .i64 hiZ, .int .i64 nZ, .slice aZ lenZ capZ, .int .i64 gZ] 70) := ⟨_, rfl⟩
  have hal : Below wZ.heap.size wZ WZ := by rw [hWZ]; exact K.alloc_below wZ _
  have HPZ := Lib.hid (show PatIn WZ wZ.heap.size #[.bool stZ, .bool enZ, .int .i64 kZ, .int .u64 (word sZ 0), .int .u64 (word sZ 1), .int .u64 (word sZ 2), .int .u64 (word sZ 3), .int .i64 loZ, .int .i64 hiZ, .int .i64 nZ, .slice aZ lenZ capZ, .int .i64 gZ] from by rw [hWZ]; exact pat_new wZ _)
  have HAZ := Lib.hid hal
  have HB_WY_WZ := Lib.hid (hb'.trans (hal.mono hb'.size))
  have HB_w_WZ := Lib.hid (HB_w_WY.out.trans (HB_WY_WZ.out.mono HB_w_WY.out.size))
  have HB_wA_WZ := Lib.hid (HB_wA_WY.out.trans (HB_WY_WZ.out.mono HB_wA_WY.out.size))
  have HB_WU_WZ := Lib.hid (HB_WU_WY.out.trans (HB_WY_WZ.out.mono HB_WU_WY.out.size))
  have HB_WV_WZ := Lib.hid (HB_WV_WY.out.trans (HB_WY_WZ.out.mono HB_WV_WY.out.size))
  have HB_WX_WZ := Lib.hid (HB_WX_WY.out.trans (HB_WY_WZ.out.mono HB_WX_WY.out.size))
  clear hb' hr' hal
  go_upto_region 12 with fail
  rw [← hWZ]
  clear hWZ
  go_wp2_with fail
  refine (HpS.out WZ (maxAt_below HM.out HB_w_WZ.out)).mono ?_
  rintro e wS ⟨stS, enS, kS, sS, loS, hiS, nS, aS, lenS, capS, gS, mS, ES, rfl, hb', hr'⟩
  have HRS := hr'
  obtain ⟨WS, hWS⟩ : ∃ WS, WS = wS.alloc (.cells #[.bool stS, .bool enS, .int .i64 kS, .int .u64 (word sS 0), .int .u64 (word sS 1), .int .u64 (word sS 2), .int .u64 (word sS 3), .int .i64 loS, .int .i64 hiS, .int .i64 nS, .slice aS lenS capS, .int .i64 gS] 70) := ⟨_, rfl⟩
  have hal : Below wS.heap.size wS WS := by rw [hWS]; exact K.alloc_below wS _
  have HPS := Lib.hid (show PatIn WS wS.heap.size #[.bool stS, .bool enS, .int .i64 kS, .int .u64 (word sS 0), .int .u64 (word sS 1), .int .u64 (word sS 2), .int .u64 (word sS 3), .int .i64 loS, .int .i64 hiS, .int .i64 nS, .slice aS lenS capS, .int .i64 gS] from by rw [hWS]; exact pat_new wS _)
  have HAS := Lib.hid hal
  have HB_WZ_WS := Lib.hid (hb'.trans (hal.mono hb'.size))
  have HB_w_WS := Lib.hid (HB_w_WZ.out.trans (HB_WZ_WS.out.mono HB_w_WZ.out.size))
  have HB_wA_WS := Lib.hid (HB_wA_WZ.out.trans (HB_WZ_WS.out.mono HB_wA_WZ.out.size))
  have HB_WU_WS := Lib.hid (HB_WU_WZ.out.trans (HB_WZ_WS.out.mono HB_WU_WZ.out.size))
  have HB_WV_WS := Lib.hid (HB_WV_WZ.out.trans (HB_WZ_WS.out.mono HB_WV_WZ.out.size))
  have HB_WX_WS := Lib.hid (HB_WX_WZ.out.trans (HB_WZ_WS.out.mono HB_WX_WZ.out.size))
  have HB_WY_WS := Lib.hid (HB_WY_WZ.out.trans (HB_WZ_WS.out.mono HB_WY_WZ.out.size))
  clear hb' hr' hal
  go_upto_region 13 with fail
  rw [← hWS]
  clear hWS
  obtain ⟨bX0, bX1, bX11⟩ := pat_cells8 (pat_keep HPX.out HB_WX_WS.out)
  obtain ⟨bY0, bY1, bY11⟩ := pat_cells8 (pat_keep HPY.out HB_WY_WS.out)
  rcases hc' : rX with ⟨kk, e'⟩ | ⟨st', en', X3, cX⟩
  · rw [hc'] at HRX
    have he' : EX = e' := HRX.out
    have hz : ¬ EX = 0 := by rw [he']; exact of_err (HrX.out.symm.trans hc')
    have hne : (EX != 0) = true := by simpa using hz
    clear he' hz hc'
    go_wp2_with fail
    go_ret
    exact ⟨rfl, HB_w_WS.out⟩
  rw [hc'] at HRX
  have HCX := Lib.hid (HrX.out.symm.trans hc')
  obtain ⟨h1, h2, h3, h4, h5⟩ := HRX.out
  subst h1 h2 h3 h4
  have HATX := Lib.hid h5
  clear h5 HRX hc'
  rcases hc' : rY with ⟨kk, e'⟩ | ⟨st', en', Y3, cY⟩
  · rw [hc'] at HRY
    have he' : EY = e' := HRY.out
    have hz : ¬ EY = 0 := by rw [he']; exact of_err (HrY.out.symm.trans hc')
    have hne : (EY != 0) = true := by simpa using hz
    clear he' hz hc'
    go_wp2_with fail
    go_ret
    exact ⟨rfl, HB_w_WS.out⟩
  rw [hc'] at HRY
  have HCY := Lib.hid (HrY.out.symm.trans hc')
  obtain ⟨h1, h2, h3, h4, h5⟩ := HRY.out
  subst h1 h2 h3 h4
  have HATY := Lib.hid h5
  clear h5 HRY hc'
  rcases hc' : rZ with ⟨kk, e'⟩ | ⟨st', en', Z3, cZ⟩
  · rw [hc'] at HRZ
    have he' : EZ = e' := HRZ.out
    have hz : ¬ EZ = 0 := by rw [he']; exact of_err (HrZ.out.symm.trans hc')
    have hne : (EZ != 0) = true := by simpa using hz
    clear he' hz hc'
    go_wp2_with fail
    go_ret
    exact ⟨rfl, HB_w_WS.out⟩
  rw [hc'] at HRZ
  have HCZ := Lib.hid (HrZ.out.symm.trans hc')
  obtain ⟨h1, h2, h3, h4, h5⟩ := HRZ.out
  subst h1 h2 h3 h4
  have HATZ := Lib.hid h5
  clear h5 HRZ hc'
  rcases hc' : rS with ⟨kk, e'⟩ | ⟨st', en', S3, cS⟩
  · rw [hc'] at HRS
    have he' : ES = e' := HRS.out
    have hz : ¬ ES = 0 := by rw [he']; exact of_err (HrS.out.symm.trans hc')
    have hne : (ES != 0) = true := by simpa using hz
    clear he' hz hc'
    go_wp2_with fail
    go_ret
    exact ⟨rfl, HB_w_WS.out⟩
  rw [hc'] at HRS
  have HCS := Lib.hid (HrS.out.symm.trans hc')
  obtain ⟨h1, h2, h3, h4, h5⟩ := HRS.out
  subst h1 h2 h3 h4
  have HATS := Lib.hid h5
  clear h5 HRS hc'
  obtain ⟨ex1, ex2, ex3, ex4⟩ := bracket_ok8 HCU.out (by have := Hn.out.1; omega) HCX.out
  obtain ⟨ey1, ey2, ey3, ey4⟩ := bracket_ok8 HCV.out (by have := Hn.out.2; omega) HCY.out
  subst ex1 ex2 ex3 ex4 ey1 ey2 ey3 ey4
  by_cases hgz : 0 < cX + cY
  · have hs1 : decide ((cX : Int) + (cY : Int) > 0) = true := by simp; omega
    have hs2 : decide ((0 : Int) < (cX : Int) + (cY : Int)) = true := by simp; omega
    have hg0 : (0 : Int) ≤ (cX : Int) := by omega
    have hg1 : (0 : Int) ≤ (cY : Int) := by omega
    have hg2 : (cX : Int) ≤ 32 := of_few HCX.out
    have hg3 : (cY : Int) ≤ 32 := of_few HCY.out
    go_wp2_with fail
    go_ret
    exact ⟨rfl, HB_w_WS.out⟩
  obtain rfl : cX = 0 := by omega
  obtain rfl : cY = 0 := by omega
  clear hgz
  have hcz := of_both HCU.out HCV.out (by have := Hn.out; omega)
  rw [HCZ.out] at hcz
  have hcs := of_rows HCX.out HCY.out (by have := Hn.out; simp; omega)
  rw [HCS.out] at hcs
  have hz3 : Z3 = .mk 2 0 0 0 0 [.mk 6 0 0 0 0 [X0], .mk 6 0 0 0 0 [Y0]] := by
    split at hcz
    · injection hcz
    · cases hcz
  have hs3 : S3 = .mk 3 0 0 0 0 [.mk 6 0 0 0 0 [X0], .mk 6 0 0 0 0 [Y0]] := by
    split at hcs
    · injection hcs
    · cases hcs
  have hcoreZ : Nd.core Z3 = .mk 3 0 0 [Nd.core (.mk 6 0 0 0 0 [X0]), Nd.core (.mk 6 0 0 0 0 [Y0])] := by rw [hz3]; exact core_two 2 3 _ _ (.inl ⟨rfl, rfl⟩)
  have hcoreS : Nd.core S3 = .mk 4 0 0 [Nd.core (.mk 6 0 0 0 0 [X0]), Nd.core (.mk 6 0 0 0 0 [Y0])] := by rw [hs3]; exact core_two 3 4 _ _ (.inr ⟨rfl, rfl⟩)
  have hgX := of_two (good_valid (of_good8 HCX.out))
  have hgY := of_two (good_valid (of_good8 HCY.out))
  have hgZ := of_two (good_valid (of_good8 HCZ.out))
  have hgS := of_two (good_valid (of_good8 HCS.out))
  have Hcore := Lib.hid (And.intro hcoreZ hcoreS)
  clear hcz hcs hz3 hs3 hcoreZ hcoreS
  have hofX := fun (w' : World) (h : Nd.at w' (.mk 6 0 0 0 0 [X0]) [.int .i64 kX, .int .u64 (word sX 0), .int .u64 (word sX 1), .int .u64 (word sX 2), .int .u64 (word sX 3), .int .i64 loX, .int .i64 hiX, .int .i64 nX, .slice aX lenX capX]) => ofC_walk h
  have hofY := fun (w' : World) (h : Nd.at w' (.mk 6 0 0 0 0 [Y0]) [.int .i64 kY, .int .u64 (word sY 0), .int .u64 (word sY 1), .int .u64 (word sY 2), .int .u64 (word sY 3), .int .i64 loY, .int .i64 hiY, .int .i64 nY, .slice aY lenY capY]) => ofC_walk h
  have hofZ := fun (w' : World) (h : Nd.at w' Z3 [.int .i64 kZ, .int .u64 (word sZ 0), .int .u64 (word sZ 1), .int .u64 (word sZ 2), .int .u64 (word sZ 3), .int .i64 loZ, .int .i64 hiZ, .int .i64 nZ, .slice aZ lenZ capZ]) => ofC_walk h
  have hofS := fun (w' : World) (h : Nd.at w' S3 [.int .i64 kS, .int .u64 (word sS 0), .int .u64 (word sS 1), .int .u64 (word sS 2), .int .u64 (word sS 3), .int .i64 loS, .int .i64 hiS, .int .i64 nS, .slice aS lenS capS]) => ofC_walk h

  generalize ofC (Nd.mk 6 0 0 0 0 [X0]) = cX' at hgX hofX
  obtain ⟨CX, FX⟩ := cX'
  simp only at hgX
  have HofX := Lib.hid hofX
  have HGX := Lib.hid hgX
  clear hofX hgX
  generalize ofC (Nd.mk 6 0 0 0 0 [Y0]) = cY' at hgY hofY
  obtain ⟨CY, FY⟩ := cY'
  simp only at hgY
  have HofY := Lib.hid hofY
  have HGY := Lib.hid hgY
  clear hofY hgY
  generalize ofC Z3 = cZ' at hgZ hofZ
  obtain ⟨CZ, FZ⟩ := cZ'
  simp only at hgZ
  have HofZ := Lib.hid hofZ
  have HGZ := Lib.hid hgZ
  clear hofZ hgZ
  generalize ofC S3 = cS' at hgS hofS
  obtain ⟨CS, FS⟩ := cS'
  simp only at hgS
  have HofS := Lib.hid hofS
  have HGS := Lib.hid hgS
  clear hofS hgS
  go_wp2_with (first | (refine wpList_load_node rfl _ rfl wX.heap.size 2 _ rfl (node9_pat (pat_keep HPX.out HB_WX_WS.out)) ?_) | fail)
  clear bX0 bX1 bX11 bY0 bY1 bY11
  refine (HofX.out WS (Nd.at_below ((HAX.out).trans ((HB_WX_WS.out).mono (HAX.out).size)) (Nat.le_refl _) _ _ HATX.out)).mono ?_
  rintro e wP ⟨ds, rfl, hin, hb'⟩
  obtain ⟨kP, sP, nP, aP, lenP, capP, rfl⟩ := hin.lit
  have HIP := Lib.hid hin.at
  have HbP := Lib.hid hb'
  clear hin hb'
  go_wp2_with (first | (refine wpList_store_core rfl _ _ rfl wP.heap.size #[.int .i64 0, .int .u64 0, .int .u64 0, .int .u64 0, .int .u64 0, .int .i64 0, .slice none 0 0] #[.int .i64 kP, .int .u64 (word sP 0), .int .u64 (word sP 1), .int .u64 (word sP 2), .int .u64 (word sP 3), .int .i64 nP, .slice aP lenP capP] rfl rfl (World.alloc_heap_new wP _) rfl rfl (by simp [Value.oneCell']) ?_; intro WP hs ho; have HSP := Lib.hid hs; have hst := ho.below (K.alloc_below wP _) (Nat.le_refl _); have HIPw := Lib.hid (Cr.at_below hst (Nat.le_refl _) _ _ HIP.out); have HB_WS_WP := Lib.hid (HbP.out.trans (hst.mono HbP.out.size)); have HB_w_WP := Lib.hid (HB_w_WS.out.trans (HB_WS_WP.out.mono HB_w_WS.out.size)); have HB_wA_WP := Lib.hid (HB_wA_WS.out.trans (HB_WS_WP.out.mono HB_wA_WS.out.size)); have HB_WU_WP := Lib.hid (HB_WU_WS.out.trans (HB_WS_WP.out.mono HB_WU_WS.out.size)); have HB_WV_WP := Lib.hid (HB_WV_WS.out.trans (HB_WS_WP.out.mono HB_WV_WS.out.size)); have HB_WX_WP := Lib.hid (HB_WX_WS.out.trans (HB_WS_WP.out.mono HB_WX_WS.out.size)); have HB_WY_WP := Lib.hid (HB_WY_WS.out.trans (HB_WS_WP.out.mono HB_WY_WS.out.size)); have HB_WZ_WP := Lib.hid (HB_WZ_WS.out.trans (HB_WS_WP.out.mono HB_WZ_WS.out.size)); clear hs ho hst) | (refine wpList_load_node rfl _ rfl wY.heap.size 2 _ rfl (node9_pat (pat_keep HPY.out HB_WY_WP.out)) ?_) | fail)
  refine (HofY.out WP (Nd.at_below ((HAY.out).trans ((HB_WY_WP.out).mono (HAY.out).size)) (Nat.le_refl _) _ _ HATY.out)).mono ?_
  rintro e wQ ⟨ds, rfl, hin, hb'⟩
  obtain ⟨kQ, sQ, nQ, aQ, lenQ, capQ, rfl⟩ := hin.lit
  have HIQ := Lib.hid hin.at
  have HbQ := Lib.hid hb'
  clear hin hb'
  go_wp2_with (first | (refine wpList_store_core rfl _ _ rfl wQ.heap.size #[.int .i64 0, .int .u64 0, .int .u64 0, .int .u64 0, .int .u64 0, .int .i64 0, .slice none 0 0] #[.int .i64 kQ, .int .u64 (word sQ 0), .int .u64 (word sQ 1), .int .u64 (word sQ 2), .int .u64 (word sQ 3), .int .i64 nQ, .slice aQ lenQ capQ] rfl rfl (World.alloc_heap_new wQ _) rfl rfl (by simp [Value.oneCell']) ?_; intro WQ hs ho; have HSQ := Lib.hid hs; have hst := ho.below (K.alloc_below wQ _) (Nat.le_refl _); have HIQw := Lib.hid (Cr.at_below hst (Nat.le_refl _) _ _ HIQ.out); have HB_WP_WQ := Lib.hid (HbQ.out.trans (hst.mono HbQ.out.size)); have HB_w_WQ := Lib.hid (HB_w_WP.out.trans (HB_WP_WQ.out.mono HB_w_WP.out.size)); have HB_wA_WQ := Lib.hid (HB_wA_WP.out.trans (HB_WP_WQ.out.mono HB_wA_WP.out.size)); have HB_WU_WQ := Lib.hid (HB_WU_WP.out.trans (HB_WP_WQ.out.mono HB_WU_WP.out.size)); have HB_WV_WQ := Lib.hid (HB_WV_WP.out.trans (HB_WP_WQ.out.mono HB_WV_WP.out.size)); have HB_WX_WQ := Lib.hid (HB_WX_WP.out.trans (HB_WP_WQ.out.mono HB_WX_WP.out.size)); have HB_WY_WQ := Lib.hid (HB_WY_WP.out.trans (HB_WP_WQ.out.mono HB_WY_WP.out.size)); have HB_WZ_WQ := Lib.hid (HB_WZ_WP.out.trans (HB_WP_WQ.out.mono HB_WZ_WP.out.size)); have HB_WS_WQ := Lib.hid (HB_WS_WP.out.trans (HB_WP_WQ.out.mono HB_WS_WP.out.size)); clear hs ho hst) | (refine wpList_load_node rfl _ rfl wZ.heap.size 2 _ rfl (node9_pat (pat_keep HPZ.out HB_WZ_WQ.out)) ?_) | fail)
  refine (HofZ.out WQ (Nd.at_below ((HAZ.out).trans ((HB_WZ_WQ.out).mono (HAZ.out).size)) (Nat.le_refl _) _ _ HATZ.out)).mono ?_
  rintro e wR ⟨ds, rfl, hin, hb'⟩
  obtain ⟨kR, sR, nR, aR, lenR, capR, rfl⟩ := hin.lit
  have HIR := Lib.hid hin.at
  have HbR := Lib.hid hb'
  clear hin hb'
  go_wp2_with (first | (refine wpList_store_core rfl _ _ rfl wR.heap.size #[.int .i64 0, .int .u64 0, .int .u64 0, .int .u64 0, .int .u64 0, .int .i64 0, .slice none 0 0] #[.int .i64 kR, .int .u64 (word sR 0), .int .u64 (word sR 1), .int .u64 (word sR 2), .int .u64 (word sR 3), .int .i64 nR, .slice aR lenR capR] rfl rfl (World.alloc_heap_new wR _) rfl rfl (by simp [Value.oneCell']) ?_; intro WR hs ho; have HSR := Lib.hid hs; have hst := ho.below (K.alloc_below wR _) (Nat.le_refl _); have HIRw := Lib.hid (Cr.at_below hst (Nat.le_refl _) _ _ HIR.out); have HB_WQ_WR := Lib.hid (HbR.out.trans (hst.mono HbR.out.size)); have HB_w_WR := Lib.hid (HB_w_WQ.out.trans (HB_WQ_WR.out.mono HB_w_WQ.out.size)); have HB_wA_WR := Lib.hid (HB_wA_WQ.out.trans (HB_WQ_WR.out.mono HB_wA_WQ.out.size)); have HB_WU_WR := Lib.hid (HB_WU_WQ.out.trans (HB_WQ_WR.out.mono HB_WU_WQ.out.size)); have HB_WV_WR := Lib.hid (HB_WV_WQ.out.trans (HB_WQ_WR.out.mono HB_WV_WQ.out.size)); have HB_WX_WR := Lib.hid (HB_WX_WQ.out.trans (HB_WQ_WR.out.mono HB_WX_WQ.out.size)); have HB_WY_WR := Lib.hid (HB_WY_WQ.out.trans (HB_WQ_WR.out.mono HB_WY_WQ.out.size)); have HB_WZ_WR := Lib.hid (HB_WZ_WQ.out.trans (HB_WQ_WR.out.mono HB_WZ_WQ.out.size)); have HB_WS_WR := Lib.hid (HB_WS_WQ.out.trans (HB_WQ_WR.out.mono HB_WS_WQ.out.size)); have HB_WP_WR := Lib.hid (HB_WP_WQ.out.trans (HB_WQ_WR.out.mono HB_WP_WQ.out.size)); clear hs ho hst) | (refine wpList_load_node rfl _ rfl wS.heap.size 2 _ rfl (node9_pat (pat_keep HPS.out HB_WS_WR.out)) ?_) | fail)
  refine (HofS.out WR (Nd.at_below ((HAS.out).trans ((HB_WS_WR.out).mono (HAS.out).size)) (Nat.le_refl _) _ _ HATS.out)).mono ?_
  rintro e wT ⟨ds, rfl, hin, hb'⟩
  obtain ⟨kT, sT, nT, aT, lenT, capT, rfl⟩ := hin.lit
  have HIT := Lib.hid hin.at
  have HbT := Lib.hid hb'
  clear hin hb'
  go_upto_region 19 with (first | (refine wpList_store_core rfl _ _ rfl wT.heap.size #[.int .i64 0, .int .u64 0, .int .u64 0, .int .u64 0, .int .u64 0, .int .i64 0, .slice none 0 0] #[.int .i64 kT, .int .u64 (word sT 0), .int .u64 (word sT 1), .int .u64 (word sT 2), .int .u64 (word sT 3), .int .i64 nT, .slice aT lenT capT] rfl rfl (World.alloc_heap_new wT _) rfl rfl (by simp [Value.oneCell']) ?_; intro WT hs ho; have HST := Lib.hid hs; have hst := ho.below (K.alloc_below wT _) (Nat.le_refl _); have HITw := Lib.hid (Cr.at_below hst (Nat.le_refl _) _ _ HIT.out); have HB_WR_WT := Lib.hid (HbT.out.trans (hst.mono HbT.out.size)); have HB_w_WT := Lib.hid (HB_w_WR.out.trans (HB_WR_WT.out.mono HB_w_WR.out.size)); have HB_wA_WT := Lib.hid (HB_wA_WR.out.trans (HB_WR_WT.out.mono HB_wA_WR.out.size)); have HB_WU_WT := Lib.hid (HB_WU_WR.out.trans (HB_WR_WT.out.mono HB_WU_WR.out.size)); have HB_WV_WT := Lib.hid (HB_WV_WR.out.trans (HB_WR_WT.out.mono HB_WV_WR.out.size)); have HB_WX_WT := Lib.hid (HB_WX_WR.out.trans (HB_WR_WT.out.mono HB_WX_WR.out.size)); have HB_WY_WT := Lib.hid (HB_WY_WR.out.trans (HB_WR_WT.out.mono HB_WY_WR.out.size)); have HB_WZ_WT := Lib.hid (HB_WZ_WR.out.trans (HB_WR_WT.out.mono HB_WZ_WR.out.size)); have HB_WS_WT := Lib.hid (HB_WS_WR.out.trans (HB_WR_WT.out.mono HB_WS_WR.out.size)); have HB_WP_WT := Lib.hid (HB_WP_WR.out.trans (HB_WR_WT.out.mono HB_WP_WR.out.size)); have HB_WQ_WT := Lib.hid (HB_WQ_WR.out.trans (HB_WR_WT.out.mono HB_WQ_WR.out.size)); clear hs ho hst) | fail)
  rcases HGX.out with ⟨rfl, hcntX, hcrX⟩ | ⟨rfl, _, _⟩
  rotate_left 1
  · go_wp2_with fail
    go_ret
    exact ⟨rfl, HB_w_WT.out⟩
  rcases HGY.out with ⟨rfl, hcntY, hcrY⟩ | ⟨rfl, _, _⟩
  rotate_left 1
  · go_wp2_with fail
    go_ret
    exact ⟨rfl, HB_w_WT.out⟩
  rcases HGZ.out with ⟨rfl, hcntZ, hcrZ⟩ | ⟨rfl, _, _⟩
  rotate_left 1
  · rcases HGS.out with ⟨rfl, _, _⟩ | ⟨rfl, _, _⟩
    · go_wp2_with fail
      go_ret
      exact ⟨rfl, HB_w_WT.out⟩
    · go_wp2_with fail
      go_ret
      exact ⟨rfl, HB_w_WT.out⟩
  rcases HGS.out with ⟨rfl, hcntS, hcrS⟩ | ⟨rfl, _, _⟩
  rotate_left 1
  · go_wp2_with fail
    go_ret
    exact ⟨rfl, HB_w_WT.out⟩
  subst hcrX hcrY hcrZ hcrS
  have h7P : ∀ w', (∃ L : Later WT, w' = L.val) → Core7 w' wP.heap.size 0 [.int .i64 kP, .int .u64 (word sP 0), .int .u64 (word sP 1), .int .u64 (word sP 2), .int .u64 (word sP 3), .int .i64 nP, .slice aP lenP capP] := fun w' hw' => by
    obtain ⟨L, rfl⟩ := hw'
    exact core7_in (core_later ((HB_WP_WT.out).trans (L.ok.mono (HB_WP_WT.out).size)) HSP.out) rfl
  have hatP := fun (w' : World) (hb : Below WT.heap.size WT w') => Cr.at_below ((HB_WP_WT.out).trans (hb.mono (HB_WP_WT.out).size)) (Nat.le_refl _) _ _ HIPw.out
  have h7Q : ∀ w', (∃ L : Later WT, w' = L.val) → Core7 w' wQ.heap.size 0 [.int .i64 kQ, .int .u64 (word sQ 0), .int .u64 (word sQ 1), .int .u64 (word sQ 2), .int .u64 (word sQ 3), .int .i64 nQ, .slice aQ lenQ capQ] := fun w' hw' => by
    obtain ⟨L, rfl⟩ := hw'
    exact core7_in (core_later ((HB_WQ_WT.out).trans (L.ok.mono (HB_WQ_WT.out).size)) HSQ.out) rfl
  have hatQ := fun (w' : World) (hb : Below WT.heap.size WT w') => Cr.at_below ((HB_WQ_WT.out).trans (hb.mono (HB_WQ_WT.out).size)) (Nat.le_refl _) _ _ HIQw.out
  have h7R : ∀ w', (∃ L : Later WT, w' = L.val) → Core7 w' wR.heap.size 0 [.int .i64 kR, .int .u64 (word sR 0), .int .u64 (word sR 1), .int .u64 (word sR 2), .int .u64 (word sR 3), .int .i64 nR, .slice aR lenR capR] := fun w' hw' => by
    obtain ⟨L, rfl⟩ := hw'
    exact core7_in (core_later ((HB_WR_WT.out).trans (L.ok.mono (HB_WR_WT.out).size)) HSR.out) rfl
  have hatR := fun (w' : World) (hb : Below WT.heap.size WT w') => Cr.at_below ((HB_WR_WT.out).trans (hb.mono (HB_WR_WT.out).size)) (Nat.le_refl _) _ _ HIRw.out
  have h7T : ∀ w', (∃ L : Later WT, w' = L.val) → Core7 w' wT.heap.size 0 [.int .i64 kT, .int .u64 (word sT 0), .int .u64 (word sT 1), .int .u64 (word sT 2), .int .u64 (word sT 3), .int .i64 nT, .slice aT lenT capT] := fun w' hw' => by
    obtain ⟨L, rfl⟩ := hw'
    exact core7_in (core_later ((Below.refl _ _).trans (L.ok.mono (Below.refl WT.heap.size WT).size)) HST.out) rfl
  have hatT := fun (w' : World) (hb : Below WT.heap.size WT w') => Cr.at_below ((Below.refl WT.heap.size WT).trans (hb.mono (Below.refl WT.heap.size WT).size)) (Nat.le_refl _) _ _ HITw.out
  obtain ⟨pX, hpX⟩ : ∃ c, c = Nd.core (.mk 6 0 0 0 0 [X0]) := ⟨_, rfl⟩
  obtain ⟨pY, hpY⟩ : ∃ c, c = Nd.core (.mk 6 0 0 0 0 [Y0]) := ⟨_, rfl⟩
  have hcz := Hcore.out.1
  have hcs := Hcore.out.2
  rw [← hpX, ← hpY] at hcz hcs
  rw [hcz] at hatR hcntZ
  rw [hcs] at hatT
  rw [← hpX] at hatP
  rw [← hpY] at hatQ
  have hcnt : 1 + (pX.count + pY.count) ≤ 2000 := by rw [K.count_mk, K.counts_cons, K.counts_cons, K.counts_nil] at hcntZ; omega
  have hsmR := fun (w' : World) (hb : Below WT.heap.size WT w') (g : Nat) (hr : w'.heap[g]? = some (.cells #[.int .i64 kP, .int .u64 (word sP 0), .int .u64 (word sP 1), .int .u64 (word sP 2), .int .u64 (word sP 3), .int .i64 nP, .slice aP lenP capP, .int .i64 kQ, .int .u64 (word sQ 0), .int .u64 (word sQ 1), .int .u64 (word sQ 2), .int .u64 (word sQ 3), .int .i64 nQ, .slice aQ lenQ capQ] 30)) => K.same_any _ _ _ _ _ w' (Nat.le_refl _) (hatR w' hb) (row_at (k := 3) rfl (hatP w' hb) (hatQ w' hb) hr)
  have hsmT := fun (w' : World) (hb : Below WT.heap.size WT w') (g : Nat) (hr : w'.heap[g]? = some (.cells #[.int .i64 kP, .int .u64 (word sP 0), .int .u64 (word sP 1), .int .u64 (word sP 2), .int .u64 (word sP 3), .int .i64 nP, .slice aP lenP capP, .int .i64 kQ, .int .u64 (word sQ 0), .int .u64 (word sQ 1), .int .u64 (word sQ 2), .int .u64 (word sQ 3), .int .i64 nQ, .slice aQ lenQ capQ] 30)) => K.same_any _ _ _ _ _ w' (Nat.le_refl _) (hatT w' hb) (row_at (k := 4) rfl (hatP w' hb) (hatQ w' hb) hr)
  simp only [Cr.same_refl] at hsmR hsmT
  have hszP := fun (w' : World) (hb : Below WT.heap.size WT w') => K.size_walk (hatP w' hb)
  have hszQ := fun (w' : World) (hb : Below WT.heap.size WT w') => K.size_walk (hatQ w' hb)
  have hszR := fun (w' : World) (hb : Below WT.heap.size WT w') => K.size_walk (hatR w' hb)
  obtain ⟨SP, hSP⟩ : ∃ z : Int, z = (sizeOfC pX : Int) := ⟨_, rfl⟩
  obtain ⟨SQ, hSQ⟩ : ∃ z : Int, z = (sizeOfC pY : Int) := ⟨_, rfl⟩
  have hSR : (sizeOfC (.mk 3 0 0 [pX, pY]) : Int) = 1 + SP + SQ := by
    rw [hSP, hSQ]
    unfold sizeOfC
    rw [K.count_mk, K.counts_cons, K.counts_cons, K.counts_nil]
    omega
  rw [hSR] at hszR
  rw [← hSP] at hszP
  rw [← hSQ] at hszQ
  have b0 : 0 ≤ SP := by omega
  have b1 : SP ≤ 2000 := by rw [hSP]; unfold sizeOfC; omega
  have b2 : 0 ≤ SQ := by omega
  have b3 : SQ ≤ 2000 := by rw [hSQ]; unfold sizeOfC; omega
  have HsmR := Lib.hid hsmR
  have HsmT := Lib.hid hsmT
  have HszP := Lib.hid hszP
  have HszQ := Lib.hid hszQ
  have HszR := Lib.hid hszR
  have hne := Later.nonempty WT
  obtain ⟨wd, hwd⟩ : ∃ wd, wd = WT.drew := ⟨_, rfl⟩
  have hcur : Below WT.heap.size WT wd := by rw [hwd]; exact drew_below WT
  clear hcz hcs hatP hatQ hatR hatT hsmR hsmT hszP hszQ hszR hSR hSP hSQ hcntX hcntY hcntZ hcntS hcnt hpX hpY
  go_upto_region 21 with fail
  refine wp_region_eager (W0 := WT) (.plain 0 (.plain 1 (.plain 2 (.sole 3 (.plain 4 (.sole 5 (.plain 6 (.plain 7 (.plain 8 (.plain 9 (.sole 10 (.plain 11 (.sole 12 (.plain 13 (.plain 14 (.plain 15 (.plain 17 (.plain 20 (.sole 16 (.sole 18 (.plain 19 (.sole 21 (.plain 22 (.plain 23 (.plain 24 (.plain 25 .done)))))))))))))))))))))))))) (Below.refl _ _) (by kernel_rfl) (by kernel_rfl) (fun c a d v w h => by cases d <;> exact h) ?_
  rw [← hwd]
  clear hwd
  repeat (first
      | (refine' eager_skip ?_ ?_ ?_
         rotate_left 1
         · simp only [List.getElem?_toArray, List.getElem?_cons_zero, List.getElem?_cons_succ]; exact rfl
         · exact rfl
         simp only [Act.put, List.setIfInBounds_toArray, List.set_cons_zero, List.set_cons_succ])
      | (refine' eager_want ?_ ?_ (fun K hK => ?_)
         rotate_left 1
         · simp only [List.getElem?_toArray, List.getElem?_cons_zero, List.getElem?_cons_succ]; exact rfl
         · exact rfl
         first
         | (refine quiet_load_core _ rfl wP.heap.size 0 _ rfl h7P ?_; refine hK _ ?_; clear hK K; try simp only [Act.put, List.setIfInBounds_toArray, List.set_cons_zero, List.set_cons_succ])
         | (refine quiet_load_core _ rfl wQ.heap.size 0 _ rfl h7Q ?_; refine hK _ ?_; clear hK K; try simp only [Act.put, List.setIfInBounds_toArray, List.set_cons_zero, List.set_cons_succ])
         | (refine quiet_load_core _ rfl wR.heap.size 0 _ rfl h7R ?_; refine hK _ ?_; clear hK K; try simp only [Act.put, List.setIfInBounds_toArray, List.set_cons_zero, List.set_cons_succ])
         | (refine quiet_load_core _ rfl wT.heap.size 0 _ rfl h7T ?_; refine hK _ ?_; clear hK K; try simp only [Act.put, List.setIfInBounds_toArray, List.set_cons_zero, List.set_cons_succ])
         | (go_big_quiet_op; refine hK _ ?_; clear hK K)))
  refine' eager_call ?_ ?_ (fun K hK => ?_)
  rotate_left 1
  · simp only [List.getElem?_toArray, List.getElem?_cons_zero, List.getElem?_cons_succ]; exact rfl
  · exact rfl
  go_simp
  refine hK _ _ ((Below.refl _ _).alloc (Nat.le_refl _) _) ?_
  clear hK K
  try simp only [Act.put, List.setIfInBounds_toArray, List.set_cons_zero, List.set_cons_succ]
  obtain ⟨wb1, hwb⟩ : ∃ wb, wb = wd.alloc (.cells #[.int .i64 kP, .int .u64 (word sP 0), .int .u64 (word sP 1), .int .u64 (word sP 2), .int .u64 (word sP 3), .int .i64 nP, .slice aP lenP capP, .int .i64 kQ, .int .u64 (word sQ 0), .int .u64 (word sQ 1), .int .u64 (word sQ 2), .int .u64 (word sQ 3), .int .i64 nQ, .slice aQ lenQ capQ] 30) := ⟨_, rfl⟩
  have hrow : wb1.heap[wd.heap.size]? = some (.cells #[.int .i64 kP, .int .u64 (word sP 0), .int .u64 (word sP 1), .int .u64 (word sP 2), .int .u64 (word sP 3), .int .i64 nP, .slice aP lenP capP, .int .i64 kQ, .int .u64 (word sQ 0), .int .u64 (word sQ 1), .int .u64 (word sQ 2), .int .u64 (word sQ 3), .int .i64 nQ, .slice aQ lenQ capQ] 30) := by rw [hwb]; exact World.alloc_heap_new wd _
  have Hrowwb1 := Lib.hid hrow
  replace hcur : Below WT.heap.size WT wb1 := by rw [hwb]; exact hcur.alloc hcur.size _
  rw [← hwb]
  clear hwb hrow
  repeat (first
      | (refine' eager_skip ?_ ?_ ?_
         rotate_left 1
         · simp only [List.getElem?_toArray, List.getElem?_cons_zero, List.getElem?_cons_succ]; exact rfl
         · exact rfl
         simp only [Act.put, List.setIfInBounds_toArray, List.set_cons_zero, List.set_cons_succ])
      | (refine' eager_want ?_ ?_ (fun K hK => ?_)
         rotate_left 1
         · simp only [List.getElem?_toArray, List.getElem?_cons_zero, List.getElem?_cons_succ]; exact rfl
         · exact rfl
         first
         | (refine quiet_load_core _ rfl wP.heap.size 0 _ rfl h7P ?_; refine hK _ ?_; clear hK K; try simp only [Act.put, List.setIfInBounds_toArray, List.set_cons_zero, List.set_cons_succ])
         | (refine quiet_load_core _ rfl wQ.heap.size 0 _ rfl h7Q ?_; refine hK _ ?_; clear hK K; try simp only [Act.put, List.setIfInBounds_toArray, List.set_cons_zero, List.set_cons_succ])
         | (refine quiet_load_core _ rfl wR.heap.size 0 _ rfl h7R ?_; refine hK _ ?_; clear hK K; try simp only [Act.put, List.setIfInBounds_toArray, List.set_cons_zero, List.set_cons_succ])
         | (refine quiet_load_core _ rfl wT.heap.size 0 _ rfl h7T ?_; refine hK _ ?_; clear hK K; try simp only [Act.put, List.setIfInBounds_toArray, List.set_cons_zero, List.set_cons_succ])
         | (go_big_quiet_op; refine hK _ ?_; clear hK K)))
  refine' eager_call ?_ ?_ (fun K hK => ?_)
  rotate_left 1
  · simp only [List.getElem?_toArray, List.getElem?_cons_zero, List.getElem?_cons_succ]; exact rfl
  · exact rfl
  go_simp
  refine (HsmR.out _ hcur _ Hrowwb1.out).mono ?_
  rintro e wn1 ⟨rfl, hb⟩
  refine hK _ _ hb ?_
  replace hcur := hcur.trans (hb.mono hcur.size)
  clear hb hK K
  try simp only [Act.put, List.setIfInBounds_toArray, List.set_cons_zero, List.set_cons_succ]
  repeat (first
      | (refine' eager_skip ?_ ?_ ?_
         rotate_left 1
         · simp only [List.getElem?_toArray, List.getElem?_cons_zero, List.getElem?_cons_succ]; exact rfl
         · exact rfl
         simp only [Act.put, List.setIfInBounds_toArray, List.set_cons_zero, List.set_cons_succ])
      | (refine' eager_want ?_ ?_ (fun K hK => ?_)
         rotate_left 1
         · simp only [List.getElem?_toArray, List.getElem?_cons_zero, List.getElem?_cons_succ]; exact rfl
         · exact rfl
         first
         | (refine quiet_load_core _ rfl wP.heap.size 0 _ rfl h7P ?_; refine hK _ ?_; clear hK K; try simp only [Act.put, List.setIfInBounds_toArray, List.set_cons_zero, List.set_cons_succ])
         | (refine quiet_load_core _ rfl wQ.heap.size 0 _ rfl h7Q ?_; refine hK _ ?_; clear hK K; try simp only [Act.put, List.setIfInBounds_toArray, List.set_cons_zero, List.set_cons_succ])
         | (refine quiet_load_core _ rfl wR.heap.size 0 _ rfl h7R ?_; refine hK _ ?_; clear hK K; try simp only [Act.put, List.setIfInBounds_toArray, List.set_cons_zero, List.set_cons_succ])
         | (refine quiet_load_core _ rfl wT.heap.size 0 _ rfl h7T ?_; refine hK _ ?_; clear hK K; try simp only [Act.put, List.setIfInBounds_toArray, List.set_cons_zero, List.set_cons_succ])
         | (go_big_quiet_op; refine hK _ ?_; clear hK K)))
  refine' eager_call ?_ ?_ (fun K hK => ?_)
  rotate_left 1
  · simp only [List.getElem?_toArray, List.getElem?_cons_zero, List.getElem?_cons_succ]; exact rfl
  · exact rfl
  go_simp
  refine hK _ _ ((Below.refl _ _).alloc (Nat.le_refl _) _) ?_
  clear hK K
  try simp only [Act.put, List.setIfInBounds_toArray, List.set_cons_zero, List.set_cons_succ]
  obtain ⟨wb2, hwb⟩ : ∃ wb, wb = wn1.alloc (.cells #[.int .i64 kP, .int .u64 (word sP 0), .int .u64 (word sP 1), .int .u64 (word sP 2), .int .u64 (word sP 3), .int .i64 nP, .slice aP lenP capP, .int .i64 kQ, .int .u64 (word sQ 0), .int .u64 (word sQ 1), .int .u64 (word sQ 2), .int .u64 (word sQ 3), .int .i64 nQ, .slice aQ lenQ capQ] 30) := ⟨_, rfl⟩
  have hrow : wb2.heap[wn1.heap.size]? = some (.cells #[.int .i64 kP, .int .u64 (word sP 0), .int .u64 (word sP 1), .int .u64 (word sP 2), .int .u64 (word sP 3), .int .i64 nP, .slice aP lenP capP, .int .i64 kQ, .int .u64 (word sQ 0), .int .u64 (word sQ 1), .int .u64 (word sQ 2), .int .u64 (word sQ 3), .int .i64 nQ, .slice aQ lenQ capQ] 30) := by rw [hwb]; exact World.alloc_heap_new wn1 _
  have Hrowwb2 := Lib.hid hrow
  replace hcur : Below WT.heap.size WT wb2 := by rw [hwb]; exact hcur.alloc hcur.size _
  rw [← hwb]
  clear hwb hrow
  repeat (first
      | (refine' eager_skip ?_ ?_ ?_
         rotate_left 1
         · simp only [List.getElem?_toArray, List.getElem?_cons_zero, List.getElem?_cons_succ]; exact rfl
         · exact rfl
         simp only [Act.put, List.setIfInBounds_toArray, List.set_cons_zero, List.set_cons_succ])
      | (refine' eager_want ?_ ?_ (fun K hK => ?_)
         rotate_left 1
         · simp only [List.getElem?_toArray, List.getElem?_cons_zero, List.getElem?_cons_succ]; exact rfl
         · exact rfl
         first
         | (refine quiet_load_core _ rfl wP.heap.size 0 _ rfl h7P ?_; refine hK _ ?_; clear hK K; try simp only [Act.put, List.setIfInBounds_toArray, List.set_cons_zero, List.set_cons_succ])
         | (refine quiet_load_core _ rfl wQ.heap.size 0 _ rfl h7Q ?_; refine hK _ ?_; clear hK K; try simp only [Act.put, List.setIfInBounds_toArray, List.set_cons_zero, List.set_cons_succ])
         | (refine quiet_load_core _ rfl wR.heap.size 0 _ rfl h7R ?_; refine hK _ ?_; clear hK K; try simp only [Act.put, List.setIfInBounds_toArray, List.set_cons_zero, List.set_cons_succ])
         | (refine quiet_load_core _ rfl wT.heap.size 0 _ rfl h7T ?_; refine hK _ ?_; clear hK K; try simp only [Act.put, List.setIfInBounds_toArray, List.set_cons_zero, List.set_cons_succ])
         | (go_big_quiet_op; refine hK _ ?_; clear hK K)))
  refine' eager_call ?_ ?_ (fun K hK => ?_)
  rotate_left 1
  · simp only [List.getElem?_toArray, List.getElem?_cons_zero, List.getElem?_cons_succ]; exact rfl
  · exact rfl
  go_simp
  refine (HsmT.out _ hcur _ Hrowwb2.out).mono ?_
  rintro e wn2 ⟨rfl, hb⟩
  refine hK _ _ hb ?_
  replace hcur := hcur.trans (hb.mono hcur.size)
  clear hb hK K
  try simp only [Act.put, List.setIfInBounds_toArray, List.set_cons_zero, List.set_cons_succ]
  repeat (first
      | (refine' eager_skip ?_ ?_ ?_
         rotate_left 1
         · simp only [List.getElem?_toArray, List.getElem?_cons_zero, List.getElem?_cons_succ]; exact rfl
         · exact rfl
         simp only [Act.put, List.setIfInBounds_toArray, List.set_cons_zero, List.set_cons_succ])
      | (refine' eager_want ?_ ?_ (fun K hK => ?_)
         rotate_left 1
         · simp only [List.getElem?_toArray, List.getElem?_cons_zero, List.getElem?_cons_succ]; exact rfl
         · exact rfl
         first
         | (refine quiet_load_core _ rfl wP.heap.size 0 _ rfl h7P ?_; refine hK _ ?_; clear hK K; try simp only [Act.put, List.setIfInBounds_toArray, List.set_cons_zero, List.set_cons_succ])
         | (refine quiet_load_core _ rfl wQ.heap.size 0 _ rfl h7Q ?_; refine hK _ ?_; clear hK K; try simp only [Act.put, List.setIfInBounds_toArray, List.set_cons_zero, List.set_cons_succ])
         | (refine quiet_load_core _ rfl wR.heap.size 0 _ rfl h7R ?_; refine hK _ ?_; clear hK K; try simp only [Act.put, List.setIfInBounds_toArray, List.set_cons_zero, List.set_cons_succ])
         | (refine quiet_load_core _ rfl wT.heap.size 0 _ rfl h7T ?_; refine hK _ ?_; clear hK K; try simp only [Act.put, List.setIfInBounds_toArray, List.set_cons_zero, List.set_cons_succ])
         | (go_big_quiet_op; refine hK _ ?_; clear hK K)))
  refine' eager_call ?_ ?_ (fun K hK => ?_)
  rotate_left 1
  · simp only [List.getElem?_toArray, List.getElem?_cons_zero, List.getElem?_cons_succ]; exact rfl
  · exact rfl
  go_simp
  refine (HszR.out _ hcur).mono ?_
  rintro e wn3 ⟨rfl, hb⟩
  refine hK _ _ hb ?_
  replace hcur := hcur.trans (hb.mono hcur.size)
  clear hb hK K
  try simp only [Act.put, List.setIfInBounds_toArray, List.set_cons_zero, List.set_cons_succ]
  refine' eager_call ?_ ?_ (fun K hK => ?_)
  rotate_left 1
  · simp only [List.getElem?_toArray, List.getElem?_cons_zero, List.getElem?_cons_succ]; exact rfl
  · exact rfl
  go_simp
  refine (HszP.out _ hcur).mono ?_
  rintro e wn4 ⟨rfl, hb⟩
  refine hK _ _ hb ?_
  replace hcur := hcur.trans (hb.mono hcur.size)
  clear hb hK K
  try simp only [Act.put, List.setIfInBounds_toArray, List.set_cons_zero, List.set_cons_succ]
  repeat (first
      | (refine' eager_skip ?_ ?_ ?_
         rotate_left 1
         · simp only [List.getElem?_toArray, List.getElem?_cons_zero, List.getElem?_cons_succ]; exact rfl
         · exact rfl
         simp only [Act.put, List.setIfInBounds_toArray, List.set_cons_zero, List.set_cons_succ])
      | (refine' eager_want ?_ ?_ (fun K hK => ?_)
         rotate_left 1
         · simp only [List.getElem?_toArray, List.getElem?_cons_zero, List.getElem?_cons_succ]; exact rfl
         · exact rfl
         first
         | (refine quiet_load_core _ rfl wP.heap.size 0 _ rfl h7P ?_; refine hK _ ?_; clear hK K; try simp only [Act.put, List.setIfInBounds_toArray, List.set_cons_zero, List.set_cons_succ])
         | (refine quiet_load_core _ rfl wQ.heap.size 0 _ rfl h7Q ?_; refine hK _ ?_; clear hK K; try simp only [Act.put, List.setIfInBounds_toArray, List.set_cons_zero, List.set_cons_succ])
         | (refine quiet_load_core _ rfl wR.heap.size 0 _ rfl h7R ?_; refine hK _ ?_; clear hK K; try simp only [Act.put, List.setIfInBounds_toArray, List.set_cons_zero, List.set_cons_succ])
         | (refine quiet_load_core _ rfl wT.heap.size 0 _ rfl h7T ?_; refine hK _ ?_; clear hK K; try simp only [Act.put, List.setIfInBounds_toArray, List.set_cons_zero, List.set_cons_succ])
         | (go_big_quiet_op; refine hK _ ?_; clear hK K)))
  refine' eager_call ?_ ?_ (fun K hK => ?_)
  rotate_left 1
  · simp only [List.getElem?_toArray, List.getElem?_cons_zero, List.getElem?_cons_succ]; exact rfl
  · exact rfl
  go_simp
  refine (HszQ.out _ hcur).mono ?_
  rintro e wn5 ⟨rfl, hb⟩
  refine hK _ _ hb ?_
  replace hcur := hcur.trans (hb.mono hcur.size)
  clear hb hK K
  try simp only [Act.put, List.setIfInBounds_toArray, List.set_cons_zero, List.set_cons_succ]
  repeat (first
      | (refine' eager_skip ?_ ?_ ?_
         rotate_left 1
         · simp only [List.getElem?_toArray, List.getElem?_cons_zero, List.getElem?_cons_succ]; exact rfl
         · exact rfl
         simp only [Act.put, List.setIfInBounds_toArray, List.set_cons_zero, List.set_cons_succ])
      | (refine' eager_want ?_ ?_ (fun K hK => ?_)
         rotate_left 1
         · simp only [List.getElem?_toArray, List.getElem?_cons_zero, List.getElem?_cons_succ]; exact rfl
         · exact rfl
         first
         | (refine quiet_load_core _ rfl wP.heap.size 0 _ rfl h7P ?_; refine hK _ ?_; clear hK K; try simp only [Act.put, List.setIfInBounds_toArray, List.set_cons_zero, List.set_cons_succ])
         | (refine quiet_load_core _ rfl wQ.heap.size 0 _ rfl h7Q ?_; refine hK _ ?_; clear hK K; try simp only [Act.put, List.setIfInBounds_toArray, List.set_cons_zero, List.set_cons_succ])
         | (refine quiet_load_core _ rfl wR.heap.size 0 _ rfl h7R ?_; refine hK _ ?_; clear hK K; try simp only [Act.put, List.setIfInBounds_toArray, List.set_cons_zero, List.set_cons_succ])
         | (refine quiet_load_core _ rfl wT.heap.size 0 _ rfl h7T ?_; refine hK _ ?_; clear hK K; try simp only [Act.put, List.setIfInBounds_toArray, List.set_cons_zero, List.set_cons_succ])
         | (go_big_quiet_op; refine hK _ ?_; clear hK K)))
  refine eager_done ?_
  have Hfin := Lib.hid ((HB_w_WT.out).trans (hcur.mono (HB_w_WT.out).size))
  clear hcur h7P h7Q h7R h7T
  go_wp2_with fail
  go_ret
  exact ⟨rfl, Hfin.out⟩
end Go.Proofs.YtlgpbgcheeaalaaGreatDoor
