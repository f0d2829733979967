/- The reader of a report: sum. -/
import Derived.Test.YtplenagncmhhoaaDoorSmO
namespace Go.Proofs.YtplenagncmhhoaaDoor
open Go.RowKit

theorem parts_step (f : Nat) (ls : List Ln) : partsP rdN (f + 1) ls = match (stepN gw ls).1 with
    | none => ([], (stepN gw ls).2)
    | some g => ((g, (ressP rdN (stepN gw ls).2).1) :: (partsP rdN f (ressP rdN (stepN gw ls).2).2).1, (partsP rdN f (ressP rdN (stepN gw ls).2).2).2) := by
  cases ls with
  | nil => rfl
  | cons l r =>
    cases h : namedP rdN gw l with
    | none =>
      rw [stepN_none h]
      show (match namedP rdN gw l with
        | none => ([], l :: r)
        | some g => ((g, (ressP rdN r).1) :: (partsP rdN f (ressP rdN r).2).1, (partsP rdN f (ressP rdN r).2).2)) = _
      rw [h]
    | some x =>
      rw [stepN_some h]
      show (match namedP rdN gw l with
        | none => ([], l :: r)
        | some g => ((g, (ressP rdN r).1) :: (partsP rdN f (ressP rdN r).2).1, (partsP rdN f (ressP rdN r).2).2)) = _
      rw [h]
def resSum (ps : List Pt) : Nat := (ps.map fun p => p.2.length).sum
theorem resSum_snoc (ps : List Pt) (p : Pt) : resSum (ps ++ [p]) = resSum ps + p.2.length := by simp [resSum]
theorem pB_sum (ps : List Pt) : ((ps.map pB).map fun p => p.2.length).sum = resSum ps := by
  unfold resSum
  rw [List.map_map]
  have : (ps.map ((fun p : PtB => p.2.length) ∘ pB)) = ps.map fun p => p.2.length := by
    apply List.map_congr_left
    intro p _
    simp [pB]
  rw [this]
/-- What the reader of a sum leaves. -/
def SumPost (w : World) (rp : Nat) (ls : List Ln) (t : Ln) (e : Ending) (w' : World) : Prop :=
  ∃ su bo A n c ok ls' k', e = .returned (.tuple #[.agg #[.string su, .string bo, .slice A n c], .bool ok]) ∧ RdS w' rp ls' t k' ∧ w.grownBy w' (some rp) ∧
    (ok = false → sumP rdN dgN ls t = (none, k')) ∧
    (ok = true → ∃ s : Sm, okS okN s ∧ su = ⟨s.suite.toArray⟩ ∧ bo = ⟨s.board.toArray⟩ ∧ (∀ W : World, (∀ b, w.heap.size + 1 ≤ b → b < w'.heap.size → W.heap[b]? = w'.heap[b]?) → PartsAt W A n (s.parts.map pB)) ∧ s.parts.length + resSum s.parts ≤ 1000000 ∧ ((ls' = [] ∧ t = []) → sumP rdN dgN ls t = (some s, 0)) ∧ (¬ (ls' = [] ∧ t = []) → sumP rdN dgN ls t = (none, k')))
/-- What is left of a sum's lines behind its first two. -/
def restP (su bo : Ln) (r1 : List Ln) (t : Ln) : Option Sm × Nat :=
  if (tk (tailL dgN (partsP rdN (r1.length + 1) r1).1) (partsP rdN (r1.length + 1) r1).2).2.1 = true ∧ (tk (tailL dgN (partsP rdN (r1.length + 1) r1).1) (partsP rdN (r1.length + 1) r1).2).2.2 = [] ∧ t = []
  then (some ⟨su, bo, (partsP rdN (r1.length + 1) r1).1⟩, 0)
  else (none, 2 + (r1.length - (partsP rdN (r1.length + 1) r1).2.length) + (tk (tailL dgN (partsP rdN (r1.length + 1) r1).1) (partsP rdN (r1.length + 1) r1).2).1)
theorem sumP_no1 {ls : List Ln} {t : Ln} (h : (stepN sw ls).1 = none) : sumP rdN dgN ls t = (none, 0) ∧ (stepN sw ls).2 = ls := by
  cases ls with
  | nil => exact ⟨rfl, rfl⟩
  | cons l r =>
    cases hn : namedP rdN sw l with
    | none => unfold sumP; simp only [hn]; exact ⟨trivial, by rw [stepN_none hn]⟩
    | some x => rw [stepN_some hn] at h; cases h
theorem sumP_no2 {ls : List Ln} {t su : Ln} (h : (stepN sw ls).1 = some su) (h2 : (stepN bw (stepN sw ls).2).1 = none) : sumP rdN dgN ls t = (none, 1) := by
  cases ls with
  | nil => cases h
  | cons l r =>
    cases hn : namedP rdN sw l with
    | none => rw [stepN_none hn] at h; cases h
    | some x =>
      rw [stepN_some hn] at h2
      unfold sumP
      simp only [hn]
      cases r with
      | nil => rfl
      | cons l1 r1 =>
        cases hm : namedP rdN bw l1 with
        | none => simp only [hm]
        | some y => rw [stepN_some hm] at h2; cases h2
theorem sumP_on {ls : List Ln} {t su bo : Ln} (h : (stepN sw ls).1 = some su) (h2 : (stepN bw (stepN sw ls).2).1 = some bo) : sumP rdN dgN ls t = restP su bo (stepN bw (stepN sw ls).2).2 t := by
  cases ls with
  | nil => cases h
  | cons l r =>
    cases hn : namedP rdN sw l with
    | none => rw [stepN_none hn] at h; cases h
    | some x =>
      rw [stepN_some hn] at h h2 ⊢
      unfold sumP
      simp only [hn]
      cases r with
      | nil => cases h2
      | cons l1 r1 =>
        cases hm : namedP rdN bw l1 with
        | none => rw [stepN_none hm] at h2; cases h2
        | some y =>
          rw [stepN_some hm] at h2 ⊢
          injection h with h
          injection h2 with h2
          subst h h2
          simp only [hm]
          rfl
theorem tk_nil (ls : List Ln) : tk [] ls = (0, true, ls) := by
  cases ls <;> rfl
theorem tk_eq (w : Ln) (ws r : List Ln) : tk (w :: ws) (w :: r) = ((tk ws r).1 + 1, (tk ws r).2.1, (tk ws r).2.2) := by
  show (if w = w then _ else _) = _
  rw [if_pos rfl]
theorem tk_ne {w l : Ln} (ws r : List Ln) (h : l ≠ w) : tk (w :: ws) (l :: r) = (0, false, l :: r) := by
  show (if l = w then _ else _) = _
  rw [if_neg h]
end Go.Proofs.YtplenagncmhhoaaDoor
