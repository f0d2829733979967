/- Trees of patterns in memory; the reference's Same says true of two that read alike. -/
import Derived.Test.YtepfpmnfecehbaaZg
import Derived.Deep.RegionHeld3
namespace Go.Proofs.Ytepfpmnfecehbaa
open Go.RowKit

inductive Tr where
  | mk (kind : Int) (rs : List (UInt8 × UInt8)) (kids : List Tr)

/-- The three cells cs are a node that reads as this tree, at most d deep; X: where its blocks may be. -/
def TreeAt (w : World) (X : Nat → Prop) : Nat → Tr → List Value → Prop
  | 0, _, _ => False
  | d + 1, .mk k rs kids, cs => ∃ A n c A' n' c', cs = [.int .i64 k, .slice A n c, .slice A' n' c'] ∧ n ≤ maxLen ∧ (n' ≤ maxLen ∧ n' ≤ c') ∧ RgAt w X A n rs ∧ kids.length = n' ∧
      (0 < n' → ∃ b o, A' = some ⟨b, o, none⟩ ∧ X b ∧ ∀ i t, kids[i]? = some t → ∃ v0 v1 v2, w.cell? ⟨b, o + i * 3, none⟩ = some v0 ∧ w.cell? ⟨b, o + i * 3 + 1, none⟩ = some v1 ∧ w.cell? ⟨b, o + i * 3 + 2, none⟩ = some v2 ∧ TreeAt w X d t [v0, v1, v2])
theorem TreeAt.keep {w w' : World} {X : Nat → Prop} (hk : ∀ b, X b → w'.heap[b]? = w.heap[b]?) : ∀ {d : Nat} {t : Tr} {cs : List Value}, TreeAt w X d t cs → TreeAt w' X d t cs
  | 0, _, _, h => h
  | d + 1, .mk k rs kids, cs, h => by
    obtain ⟨A, n, c, A', n', c', h1, h2, h2', h3, h4, h5⟩ := h
    refine ⟨A, n, c, A', n', c', h1, h2, h2', h3.keep hk, h4, fun hn => ?_⟩
    obtain ⟨b, o, hA, hX, hc⟩ := h5 hn
    refine ⟨b, o, hA, hX, fun i t ht => ?_⟩
    obtain ⟨v0, v1, v2, e0, e1, e2, ht'⟩ := hc i t ht
    have e := hk b hX
    exact ⟨v0, v1, v2, (World.cell?_of_block (a := ⟨b, o + i * 3, none⟩) e).trans e0, (World.cell?_of_block (a := ⟨b, o + i * 3 + 1, none⟩) e).trans e1, (World.cell?_of_block (a := ⟨b, o + i * 3 + 2, none⟩) e).trans e2, ht'.keep hk⟩
theorem TreeAt.mono {w : World} {X Y : Nat → Prop} (hXY : ∀ b, X b → Y b) : ∀ {d : Nat} {t : Tr} {cs : List Value}, TreeAt w X d t cs → TreeAt w Y d t cs
  | 0, _, _, h => h
  | d + 1, .mk k rs kids, cs, h => by
    obtain ⟨A, n, c, A', n', c', h1, h2, h2', h3, h4, h5⟩ := h
    refine ⟨A, n, c, A', n', c', h1, h2, h2', h3.mono hXY, h4, fun hn => ?_⟩
    obtain ⟨b, o, hA, hX, hc⟩ := h5 hn
    refine ⟨b, o, hA, hXY b hX, fun i t ht => ?_⟩
    obtain ⟨v0, v1, v2, e0, e1, e2, ht'⟩ := hc i t ht
    exact ⟨v0, v1, v2, e0, e1, e2, ht'.mono hXY⟩
theorem TreeAt.deeper {w : World} {X : Nat → Prop} : ∀ {d d' : Nat} {t : Tr} {cs : List Value}, TreeAt w X d t cs → d ≤ d' → TreeAt w X d' t cs
  | 0, _, _, _, h, _ => h.elim
  | d + 1, d', .mk k rs kids, cs, h, hd => by
    match d', hd with
    | d' + 1, hd =>
      obtain ⟨A, n, c, A', n', c', h1, h2, h2', h3, h4, h5⟩ := h
      refine ⟨A, n, c, A', n', c', h1, h2, h2', h3, h4, fun hn => ?_⟩
      obtain ⟨b, o, hA, hX, hc⟩ := h5 hn
      refine ⟨b, o, hA, hX, fun i t ht => ?_⟩
      obtain ⟨v0, v1, v2, e0, e1, e2, ht'⟩ := hc i t ht
      exact ⟨v0, v1, v2, e0, e1, e2, ht'.deeper (by omega)⟩
/-- A node's three cells. -/
theorem TreeAt.form {w : World} {X : Nat → Prop} {d : Nat} {t : Tr} {cs : List Value} (h : TreeAt w X d t cs) : ∃ a b c, cs = [a, b, c] := by
  match d, t, h with
  | d + 1, .mk k rs kids, h => obtain ⟨A, n, c, A', n', c', h1, _⟩ := h; exact ⟨_, _, _, h1⟩

theorem bcell {W w1 : World} (hb : Below W.heap.size W w1) : (∀ b o, b < W.heap.size → w1.cell? ⟨b, o, none⟩ = W.cell? ⟨b, o, none⟩) ∧ (∀ b o, b < W.heap.size → w1.frozen? ⟨b, o, none⟩ = W.frozen? ⟨b, o, none⟩) :=
  ⟨fun b o h => hb.cell (p := ⟨b, o, none⟩) h, fun b o h => hb.frozen (p := ⟨b, o, none⟩) h⟩
end Go.Proofs.Ytepfpmnfecehbaa
