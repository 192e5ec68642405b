/- A cut inside a quiet walk: what a few operations leave, told without how they came there: for 'x || y', 'x && y' whose x is not known. -/
import Derived.Test.YtgdkopcfkoikjaaLater
namespace Go.Proofs.Ytgdkopcfkoikjaa
section
variable {P : Program} {ops : Array Oper} {C : World → Prop}
theorem wpQuiet_mono {Q Q' : Act → Prop} (h : ∀ a, Q a → Q' a) : ∀ (l : List Oper) (a : Act), wpQuiet P ops C Q l a → wpQuiet P ops C Q' l a
  | [], a, h1 => h a h1
  | o :: l, a, h1 => by
    unfold wpQuiet at h1 ⊢
    split
    · rename_i hw; rw [if_pos hw] at h1; exact Oper.quiet_mono (wpQuiet_mono h l) h1
    · rename_i hw; rw [if_neg hw] at h1; exact wpQuiet_mono h l _ h1
theorem wpQuiet_append {Q : Act → Prop} : ∀ (l1 l2 : List Oper) (a : Act), wpQuiet P ops C (wpQuiet P ops C Q l2) l1 a → wpQuiet P ops C Q (l1 ++ l2) a
  | [], _, _, h1 => h1
  | o :: l1, l2, a, h1 => by
    rw [List.cons_append]
    unfold wpQuiet at h1 ⊢
    split
    · rename_i hw; rw [if_pos hw] at h1; exact Oper.quiet_mono (wpQuiet_append l1 l2) h1
    · rename_i hw; rw [if_neg hw] at h1; exact wpQuiet_append l1 l2 _ h1
theorem quiet_cut {Q : Act → Prop} (l1 : List Oper) {l2 : List Oper} {a : Act} (R : Act → Prop) (h : wpQuiet P ops C R l1 a) (hK : ∀ a', R a' → wpQuiet P ops C Q l2 a') : wpQuiet P ops C Q (l1 ++ l2) a :=
  wpQuiet_append _ _ _ (wpQuiet_mono hK _ _ h)
theorem quiet_cut1 {Q : Act → Prop} {o0 o1 : Oper} {l2 : List Oper} {a : Act} (d0 d : Nat) (v : Value) (h : wpQuiet P ops C (fun a' => ∃ x0, a' = (a.put (some d0) x0).put (some d) v) [o0, o1] a) (hK : ∀ x0, wpQuiet P ops C Q l2 ((a.put (some d0) x0).put (some d) v)) : wpQuiet P ops C Q (o0 :: o1 :: l2) a :=
  quiet_cut [o0, o1] _ h (fun a' ⟨x0, he⟩ => by subst he; exact hK x0)
theorem quiet_cut2 {Q : Act → Prop} {o0 o1 o2 : Oper} {l2 : List Oper} {a : Act} (d0 d1 d : Nat) (v : Value) (h : wpQuiet P ops C (fun a' => ∃ x0 x1, a' = ((a.put (some d0) x0).put (some d1) x1).put (some d) v) [o0, o1, o2] a) (hK : ∀ x0 x1, wpQuiet P ops C Q l2 (((a.put (some d0) x0).put (some d1) x1).put (some d) v)) : wpQuiet P ops C Q (o0 :: o1 :: o2 :: l2) a :=
  quiet_cut [o0, o1, o2] _ h (fun a' ⟨x0, x1, he⟩ => by subst he; exact hK x0 x1)
theorem quiet_cut3 {Q : Act → Prop} {o0 o1 o2 o3 : Oper} {l2 : List Oper} {a : Act} (d0 d1 d2 d : Nat) (v : Value) (h : wpQuiet P ops C (fun a' => ∃ x0 x1 x2, a' = (((a.put (some d0) x0).put (some d1) x1).put (some d2) x2).put (some d) v) [o0, o1, o2, o3] a) (hK : ∀ x0 x1 x2, wpQuiet P ops C Q l2 ((((a.put (some d0) x0).put (some d1) x1).put (some d2) x2).put (some d) v)) : wpQuiet P ops C Q (o0 :: o1 :: o2 :: o3 :: l2) a :=
  quiet_cut [o0, o1, o2, o3] _ h (fun a' ⟨x0, x1, x2, he⟩ => by subst he; exact hK x0 x1 x2)
theorem quiet_cut4 {Q : Act → Prop} {o0 o1 o2 o3 o4 : Oper} {l2 : List Oper} {a : Act} (d0 d1 d2 d3 d : Nat) (v : Value) (h : wpQuiet P ops C (fun a' => ∃ x0 x1 x2 x3, a' = ((((a.put (some d0) x0).put (some d1) x1).put (some d2) x2).put (some d3) x3).put (some d) v) [o0, o1, o2, o3, o4] a) (hK : ∀ x0 x1 x2 x3, wpQuiet P ops C Q l2 (((((a.put (some d0) x0).put (some d1) x1).put (some d2) x2).put (some d3) x3).put (some d) v)) : wpQuiet P ops C Q (o0 :: o1 :: o2 :: o3 :: o4 :: l2) a :=
  quiet_cut [o0, o1, o2, o3, o4] _ h (fun a' ⟨x0, x1, x2, x3, he⟩ => by subst he; exact hK x0 x1 x2 x3)
theorem quiet_cut5 {Q : Act → Prop} {o0 o1 o2 o3 o4 o5 : Oper} {l2 : List Oper} {a : Act} (d0 d1 d2 d3 d4 d : Nat) (v : Value) (h : wpQuiet P ops C (fun a' => ∃ x0 x1 x2 x3 x4, a' = (((((a.put (some d0) x0).put (some d1) x1).put (some d2) x2).put (some d3) x3).put (some d4) x4).put (some d) v) [o0, o1, o2, o3, o4, o5] a) (hK : ∀ x0 x1 x2 x3 x4, wpQuiet P ops C Q l2 ((((((a.put (some d0) x0).put (some d1) x1).put (some d2) x2).put (some d3) x3).put (some d4) x4).put (some d) v)) : wpQuiet P ops C Q (o0 :: o1 :: o2 :: o3 :: o4 :: o5 :: l2) a :=
  quiet_cut [o0, o1, o2, o3, o4, o5] _ h (fun a' ⟨x0, x1, x2, x3, x4, he⟩ => by subst he; exact hK x0 x1 x2 x3 x4)
theorem quiet_cut6 {Q : Act → Prop} {o0 o1 o2 o3 o4 o5 o6 : Oper} {l2 : List Oper} {a : Act} (d0 d1 d2 d3 d4 d5 d : Nat) (v : Value) (h : wpQuiet P ops C (fun a' => ∃ x0 x1 x2 x3 x4 x5, a' = ((((((a.put (some d0) x0).put (some d1) x1).put (some d2) x2).put (some d3) x3).put (some d4) x4).put (some d5) x5).put (some d) v) [o0, o1, o2, o3, o4, o5, o6] a) (hK : ∀ x0 x1 x2 x3 x4 x5, wpQuiet P ops C Q l2 (((((((a.put (some d0) x0).put (some d1) x1).put (some d2) x2).put (some d3) x3).put (some d4) x4).put (some d5) x5).put (some d) v)) : wpQuiet P ops C Q (o0 :: o1 :: o2 :: o3 :: o4 :: o5 :: o6 :: l2) a :=
  quiet_cut [o0, o1, o2, o3, o4, o5, o6] _ h (fun a' ⟨x0, x1, x2, x3, x4, x5, he⟩ => by subst he; exact hK x0 x1 x2 x3 x4 x5)
theorem quiet_cut10 {Q : Act → Prop} {o0 o1 o2 o3 o4 o5 o6 o7 o8 o9 o10 : Oper} {l2 : List Oper} {a : Act} (d0 d1 d2 d3 d4 d5 d6 d7 d8 d9 d : Nat) (v : Value) (h : wpQuiet P ops C (fun a' => ∃ x0 x1 x2 x3 x4 x5 x6 x7 x8 x9, a' = ((((((((((a.put (some d0) x0).put (some d1) x1).put (some d2) x2).put (some d3) x3).put (some d4) x4).put (some d5) x5).put (some d6) x6).put (some d7) x7).put (some d8) x8).put (some d9) x9).put (some d) v) [o0, o1, o2, o3, o4, o5, o6, o7, o8, o9, o10] a) (hK : ∀ x0 x1 x2 x3 x4 x5 x6 x7 x8 x9, wpQuiet P ops C Q l2 (((((((((((a.put (some d0) x0).put (some d1) x1).put (some d2) x2).put (some d3) x3).put (some d4) x4).put (some d5) x5).put (some d6) x6).put (some d7) x7).put (some d8) x8).put (some d9) x9).put (some d) v)) : wpQuiet P ops C Q (o0 :: o1 :: o2 :: o3 :: o4 :: o5 :: o6 :: o7 :: o8 :: o9 :: o10 :: l2) a :=
  quiet_cut [o0, o1, o2, o3, o4, o5, o6, o7, o8, o9, o10] _ h (fun a' ⟨x0, x1, x2, x3, x4, x5, x6, x7, x8, x9, he⟩ => by subst he; exact hK x0 x1 x2 x3 x4 x5 x6 x7 x8 x9)
end
end Go.Proofs.Ytgdkopcfkoikjaa
