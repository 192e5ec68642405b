/- Two patterns in brackets, one behind the other: how they are parsed. -/
import Derived.Test.YtlgpbgcheeaalaaGreatDoorParseWhole
namespace Go.Proofs.YtlgpbgcheeaalaaGreatDoor
set_option maxRecDepth 100000
open Go.RowKit
def openT (d : Nat) : TK := (⟨3, 0, 0, 0⟩, d)
def closeT (d : Nat) : TK := (⟨4, 0, 0, 0⟩, d)
theorem cut_bracket {cls : List Nat → Option (BitVec 256)} {q : List Nat} {T : List TK} (hT : cutAll cls q = (none, T)) (hC : endsOk T = true) :
    cutAll cls (40 :: 63 :: 58 :: (q ++ [41])) = (none, openT 0 :: (moveToks 3 T ++ [closeT (q.length + 3)])) := by
  have c1 : cutAll cls (q ++ [41]) = (none, T ++ [(⟨4, 0, 0, 0⟩, q.length)]) := by
    rw [cutAll_append2 cls q [41] (by rw [hT]) (by rw [hT]; exact okCut_of_ends T hC), cut_one cls 41 [] ⟨4, 0, 0, 0⟩ rfl, hT]
    simp [moveErr, moveToks]
  have := cutAll_append2 cls [40, 63, 58] (q ++ [41]) (by rw [cut_one cls 40 [63, 58] ⟨3, 0, 0, 0⟩ rfl]) (by rw [cut_one cls 40 [63, 58] ⟨3, 0, 0, 0⟩ rfl]; rfl)
  rw [cut_one cls 40 [63, 58] ⟨3, 0, 0, 0⟩ rfl, c1] at this
  rw [show 40 :: 63 :: 58 :: (q ++ [41]) = [40, 63, 58] ++ (q ++ [41]) from rfl, this]
  simp [moveErr, moveToks, openT, closeT]
theorem piece_bracket {n : Nat} {T : List TK} {xs : List Nd} {g : Nat} (hxs : rowsP n (encF n (T.length + 1)) T 0 = .ok xs [] g) (d p0 p1 : Nat) (fin' : Int) (R : List TK) (hR : kindOf R ≠ 6) (N : Nat) (hN : T.length + 2 ≤ N) :
    pieceP fin' (encF fin' (N + 1)) (openT p0 :: (moveToks d T ++ closeT p1 :: R)) 0 = .ok (.mk 6 0 0 0 0 [oneOf 3 xs]) R g := by
  have hS : Stops (closeT p1 :: R) := ⟨by show (4 : Nat) ≠ 6; decide, rfl⟩
  have hr := rows_agree (d := d) (e := 0) (R := closeT p1 :: R) (fin' := fin') (enc_takes _ _) (enc_agree d 0 _ hS n fin' (T.length + 1) N (by omega)) hS (Z := []) (k := closeT p1 :: R) (gk := g) hxs (fun h => absurd rfl h)
    (fun _ F hF => by
      cases F with
      | zero => cases hF
      | succ F => unfold moreRows; rw [if_neg (by show ¬ (4 : Nat) = 5; decide)]; rfl) (.inl rfl)
  rw [List.append_nil, show (0 : Nat) + 0 = 0 from rfl] at hr
  have he : encF fin' (N + 1) (moveToks d T ++ closeT p1 :: R) 0 = .ok (oneOf 3 xs) R g := by
    unfold encF enclosedP
    show PR.bind (PR.map (oneOf 3) (rowsP fin' (encF fin' N) _ 0)) _ = _
    rw [hr]
    rfl
  unfold pieceP atomP
  rw [if_neg (by show ¬ (3 : Nat) = 2; decide), if_pos (by show (3 : Nat) = 3; rfl)]
  show PR.bind (PR.map _ (encF fin' (N + 1) (moveToks d T ++ closeT p1 :: R) 0)) _ = _
  rw [he]
  show (if kindOf R = 6 then _ else _) = _
  rw [if_neg hR]
theorem endsOk_close (A : List TK) (p : Nat) : endsOk (A ++ [closeT p]) = true := endsOk_last A (closeT p) (.inr rfl)
/-- one behind the other -/
theorem of_both {cls : List Nat → Option (BitVec 256)} {a b : List Nat} {x y : Nd} (hx : ofP cls a = .ok false false x 0) (hy : ofP cls b = .ok false false y 0) (hl : a.length + b.length ≤ 1016) :
    ofP cls (40 :: 63 :: 58 :: (a ++ [41]) ++ 40 :: 63 :: 58 :: (b ++ [41])) = if goodP (.mk 2 0 0 0 0 [.mk 6 0 0 0 0 [x], .mk 6 0 0 0 0 [y]]) 0 then .ok false false (.mk 2 0 0 0 0 [.mk 6 0 0 0 0 [x], .mk 6 0 0 0 0 [y]]) 0 else .err 0 4 := by
  obtain ⟨T, xs, hT, _, hn, hC, h7, h8, hxs, rfl, hg⟩ := of_plain hx
  obtain ⟨U, ys, hU, _, hm, hD, k7, k8, hys, rfl, hgy⟩ := of_plain hy
  have ca := cut_bracket hT hC
  have cb := cut_bracket hU hD
  have hend : okCut (openT 0 :: (moveToks 3 T ++ [closeT (a.length + 3)])) = true := okCut_of_ends _ (endsOk_close (openT 0 :: moveToks 3 T) _)
  have c2 : cutAll cls (40 :: 63 :: 58 :: (a ++ [41]) ++ 40 :: 63 :: 58 :: (b ++ [41])) = (none, openT 0 :: (moveToks 3 T ++ closeT (a.length + 3) :: openT (a.length + 4) :: (moveToks (a.length + 7) U ++ [closeT (a.length + b.length + 7)]))) := by
    rw [cutAll_append2 cls _ _ (by rw [ca]) (by rw [ca]; exact hend), ca, cb]
    simp [moveErr, moveToks, openT, closeT, Nat.add_comm, Nat.add_left_comm, Nat.add_assoc]
  unfold ofP
  rw [if_neg (by simp; omega), c2]
  simp only
  unfold ofTokens
  generalize hfin : (((40 :: 63 :: 58 :: (a ++ [41]) ++ 40 :: 63 :: 58 :: (b ++ [41])).length : Nat) : Int) = fin'
  generalize hL : (openT 0 :: (moveToks 3 T ++ closeT (a.length + 3) :: openT (a.length + 4) :: (moveToks (a.length + 7) U ++ [closeT (a.length + b.length + 7)]))) = L
  have e2 : endsWith8 L = false := by
    rw [← hL, show openT 0 :: (moveToks 3 T ++ closeT (a.length + 3) :: openT (a.length + 4) :: (moveToks (a.length + 7) U ++ [closeT (a.length + b.length + 7)])) = (openT 0 :: (moveToks 3 T ++ closeT (a.length + 3) :: openT (a.length + 4) :: moveToks (a.length + 7) U)) ++ [closeT (a.length + b.length + 7)] from by simp, ends_append _ _ (by simp)]; rfl
  have e0 : kindOf L = 3 := by rw [← hL]; rfl
  have e1 : trimStart L = L := by unfold trimStart; rw [if_neg (by rw [e0]; decide)]
  have hlen : T.length + U.length + 4 = L.length := by rw [← hL]; simp [moveToks]; omega
  rw [read_plain (by rw [e0]; decide) e2, e1, e2]
  have p1 := piece_bracket hxs 3 0 (a.length + 3) fin' (openT (a.length + 4) :: (moveToks (a.length + 7) U ++ [closeT (a.length + b.length + 7)])) (by show (3 : Nat) ≠ 6; decide) L.length (by omega)
  have p2 := piece_bracket hys (a.length + 7) (a.length + 4) (a.length + b.length + 7) fin' [] (by decide) L.length (by omega)
  rw [hL] at p1
  have ha : altF fin' (L.length + 1) L 0 = .ok (.mk 2 0 0 0 0 [.mk 6 0 0 0 0 [oneOf 3 xs], .mk 6 0 0 0 0 [oneOf 3 ys]]) [] 0 := by
    unfold altF rowsP concatP piecesP
    rw [p1]
    show PR.map _ (PR.bind (PR.map _ (PR.map _ (moreP fin' _ ((openT (a.length + 4) :: (moveToks (a.length + 7) U ++ [closeT (a.length + b.length + 7)])).length + 1) (openT (a.length + 4) :: (moveToks (a.length + 7) U ++ [closeT (a.length + b.length + 7)])) 0))) _) = _
    unfold moreP
    rw [if_pos (by rfl), p2]
    rfl
  rw [ha]
  simp only [PR.bind, if_true]
  rw [show (kindOf L == 7) = false from by rw [e0]; rfl]
  rfl
end Go.Proofs.YtlgpbgcheeaalaaGreatDoor
