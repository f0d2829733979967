/- A slice among a law's arguments lies in memory that is there. -/
import Derived.Test.YteokiaeojgjpdaaDoorLz
namespace Go.Proofs.YteokiaeojgjpdaaDoor
open Go.RowKit Go.ChangeShapes Go.WideShapes Go.ChangeAt Go.Deep

set_option maxRecDepth 100000 in
theorem slice_in {W : World} {base : Nat} {t e : TypeId} {A : Option Addr} {n c : Nat} (ht : Tryd.prog.underlying t = some (.slice e)) (h : Value.okWide Tryd.prog W .any base t (.slice A n c)) : n ≤ c ∧ ∀ b o, A = some ⟨b, o, none⟩ → b < W.heap.size := by
  simp only [Value.okWide, ht, Cell.okWide, Cell.ok] at h
  cases A with
  | none =>
    refine ⟨?_, fun b o e => by cases e⟩
    match n, c, h with
    | 0, 0, _ => exact Nat.le_refl _
    | n + 1, _, h => simp at h
    | 0, c + 1, h => exact Nat.zero_le _
  | some a =>
    obtain ⟨h1, _, _, _, row, cells, h2, _⟩ := h
    refine ⟨h1, fun b o e => ?_⟩
    cases e
    unfold World.shape? at h2
    rcases Nat.lt_or_ge b W.heap.size with h' | h'
    · exact h'
    · rw [Array.getElem?_eq_none h'] at h2; simp at h2
end Go.Proofs.YteokiaeojgjpdaaDoor
