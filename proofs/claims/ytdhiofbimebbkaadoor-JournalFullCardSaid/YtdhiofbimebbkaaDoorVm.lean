/- What a loss of power leaves, in plain words. No program. -/
import Derived.Test.YtdhiofbimebbkaaDoorVe
namespace Go.Proofs.YtdhiofbimebbkaaDoor
open Go.RowKit Go.Maps

def tot (V : List (List UInt8 × List UInt8 × Nat)) : Nat := (V.map fun t => t.2.1.length).sum
/-- How many bytes of a file are left, and how many numbers are used up. -/
def crN (ks : List Int) (nx : Nat) (t : List UInt8 × List UInt8 × Nat) : Nat := t.2.2 + (match ks[nx]? with | some k => min k.toNat (t.2.1.length - t.2.2) | none => 0)
def cr1 (ks : List Int) (nx : Nat) (t : List UInt8 × List UInt8 × Nat) : (List UInt8 × List UInt8 × Nat) × Nat :=
  if t.2.2 = t.2.1.length then (t, nx) else ((t.1, t.2.1.take (crN ks nx t), crN ks nx t), if nx < ks.length then nx + 1 else nx)
def crL (ks : List Int) : Nat → List (List UInt8 × List UInt8 × Nat) → List (List UInt8 × List UInt8 × Nat) × Nat
  | nx, [] => ([], nx)
  | nx, t :: r => ((cr1 ks nx t).1 :: (crL ks (cr1 ks nx t).2 r).1, (crL ks (cr1 ks nx t).2 r).2)
theorem crL_snoc (ks : List Int) : ∀ (nx : Nat) (V : List (List UInt8 × List UInt8 × Nat)) (t : List UInt8 × List UInt8 × Nat), crL ks nx (V ++ [t]) = ((crL ks nx V).1 ++ [(cr1 ks (crL ks nx V).2 t).1], (cr1 ks (crL ks nx V).2 t).2)
  | nx, [], t => rfl
  | nx, a :: r, t => by
    rw [List.cons_append]
    simp only [crL]
    rw [crL_snoc ks (cr1 ks nx a).2 r t]
    rfl
theorem crL_length (ks : List Int) : ∀ (nx : Nat) (V : List (List UInt8 × List UInt8 × Nat)), (crL ks nx V).1.length = V.length
  | _, [] => rfl
  | nx, a :: r => by simp only [crL, List.length_cons, crL_length ks _ r]
theorem cr1_name (ks : List Int) (nx : Nat) (t : List UInt8 × List UInt8 × Nat) : (cr1 ks nx t).1.1 = t.1 := by unfold cr1; split <;> rfl
theorem crL_next (ks : List Int) : ∀ (nx : Nat) (V : List (List UInt8 × List UInt8 × Nat)), nx ≤ ks.length → (crL ks nx V).2 ≤ ks.length
  | _, [], h => h
  | nx, a :: r, h => by
    simp only [crL]
    refine crL_next ks _ r ?_
    unfold cr1
    split
    · exact h
    · show (if nx < ks.length then nx + 1 else nx) ≤ ks.length
      split <;> omega
theorem take_succ_at {α : Type} {V : List α} {j : Nat} {t : α} (h : V[j]? = some t) : V.take (j + 1) = V.take j ++ [t] ∧ V.drop j = t :: V.drop (j + 1) := by
  obtain ⟨hj, e⟩ := List.getElem?_eq_some_iff.1 h
  constructor
  · rw [List.take_succ_eq_append_getElem hj, e]
  · rw [List.drop_eq_getElem_cons hj, e]
theorem set_mid {α : Type} (P : List α) (t x : α) (R : List α) : (P ++ t :: R).set P.length x = P ++ x :: R := by
  rw [List.set_append_right _ _ (Nat.le_refl _), Nat.sub_self]; rfl
theorem tot_app (P R : List (List UInt8 × List UInt8 × Nat)) : tot (P ++ R) = tot P + tot R := by unfold tot; rw [List.map_append, List.sum_append]
theorem tot_cons (t : List UInt8 × List UInt8 × Nat) (R : List (List UInt8 × List UInt8 × Nat)) : tot (t :: R) = t.2.1.length + tot R := by unfold tot; rw [List.map_cons, List.sum_cons]
theorem tot_mem {V : List (List UInt8 × List UInt8 × Nat)} {t : List UInt8 × List UInt8 × Nat} (h : t ∈ V) : t.2.1.length ≤ tot V := by
  obtain ⟨P, R, rfl⟩ := List.append_of_mem h
  rw [tot_app, tot_cons]; omega
/-- One file of a list in which no name stands twice. -/
theorem upd_set {M : List Fl} (hr : Rise M) {i : Nat} {f x : Fl} (hi : M[i]? = some f) (hx : x.name = f.name) : updF x M = M.set i x := by
  apply List.ext_getElem?
  intro k
  unfold updF
  rw [List.getElem?_map, List.getElem?_set]
  obtain ⟨hil, hie⟩ := List.getElem?_eq_some_iff.1 hi
  by_cases hk : i = k
  · subst hk
    rw [hi]
    simp [hx, hil]
  · rw [if_neg hk]
    cases hm : M[k]? with
    | none => rfl
    | some g =>
      simp only [Option.map_some, Option.some.injEq]
      obtain ⟨hkl, hke⟩ := List.getElem?_eq_some_iff.1 hm
      refine if_neg ?_
      intro e
      have e' : g.name = f.name := (by simpa using e : g.name = x.name).trans hx
      have hp := hr
      unfold Rise at hp
      rw [List.pairwise_iff_getElem] at hp
      rcases Nat.lt_or_gt_of_ne hk with h1 | h1
      · have := hp i k hil hkl h1
        rw [hie, hke] at this
        exact before_ne this e'.symm
      · have := hp k i hkl hil h1
        rw [hie, hke] at this
        exact before_ne this e'
theorem crN_le (ks : List Int) (nx : Nat) (t : List UInt8 × List UInt8 × Nat) (h : t.2.2 ≤ t.2.1.length) : t.2.2 ≤ crN ks nx t ∧ crN ks nx t ≤ t.2.1.length := by
  unfold crN
  cases ks[nx]? with
  | none => exact ⟨Nat.le_refl _, h⟩
  | some k =>
    have h1 : min k.toNat (t.2.1.length - t.2.2) ≤ t.2.1.length - t.2.2 := Nat.min_le_right _ _
    show t.2.2 ≤ t.2.2 + min k.toNat (t.2.1.length - t.2.2) ∧ t.2.2 + min k.toNat (t.2.1.length - t.2.2) ≤ t.2.1.length
    generalize min k.toNat (t.2.1.length - t.2.2) = m at *
    omega
def crashS (ks : List Int) (s : Sta) : Sta := ⟨(crL ks 0 s.V).1, s.free + (tot s.V - tot (crL ks 0 s.V).1), 0, false⟩
end Go.Proofs.YtdhiofbimebbkaaDoor
