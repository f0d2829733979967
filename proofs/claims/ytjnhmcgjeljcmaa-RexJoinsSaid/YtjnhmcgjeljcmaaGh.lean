/- glob.holds, onlyStars. -/
import Derived.Test.YtjnhmcgjeljcmaaRr
import Derived.Test.YtjnhmcgjeljcmaaTw
import Derived.Test.YtjnhmcgjeljcmaaGm
namespace Go.Proofs.Ytjnhmcgjeljcmaa
open Go.RowKit

/-- A slice of nodes that reads as these trees. -/
def KdAt (w : World) (X : Nat → Prop) (d : Nat) (A : Option Addr) (n : Nat) (ts : List Tr) : Prop :=
  ts.length = n ∧ (0 < n → ∃ b o, A = some ⟨b, o, none⟩ ∧ X b ∧ ∀ i t, ts[i]? = some t → ∃ v0 v1 v2, w.cell? ⟨b, o + i * 3, none⟩ = some v0 ∧ w.cell? ⟨b, o + i * 3 + 1, none⟩ = some v1 ∧ w.cell? ⟨b, o + i * 3 + 2, none⟩ = some v2 ∧ TreeAt w X d t [v0, v1, v2])
theorem KdAt.keep {w w' : World} {X : Nat → Prop} {d n : Nat} {A : Option Addr} {ts : List Tr} (h : KdAt w X d A n ts) (hk : ∀ b, X b → w'.heap[b]? = w.heap[b]?) : KdAt w' X d A n ts :=
  ⟨h.1, fun hn => by
    obtain ⟨b, o, hA, hX, hc⟩ := h.2 hn
    refine ⟨b, o, hA, hX, fun i t ht => ?_⟩
    obtain ⟨v0, v1, v2, e0, e1, e2, ht'⟩ := hc i t ht
    have e := hk b hX
    exact ⟨v0, v1, v2, (World.cell?_of_block (a := ⟨b, o + i * 3, none⟩) e).trans e0, (World.cell?_of_block (a := ⟨b, o + i * 3 + 1, none⟩) e).trans e1, (World.cell?_of_block (a := ⟨b, o + i * 3 + 2, none⟩) e).trans e2, ht'.keep hk⟩⟩
theorem KdAt.mono {w : World} {X Y : Nat → Prop} {d n : Nat} {A : Option Addr} {ts : List Tr} (h : KdAt w X d A n ts) (hXY : ∀ b, X b → Y b) : KdAt w Y d A n ts :=
  ⟨h.1, fun hn => by
    obtain ⟨b, o, hA, hX, hc⟩ := h.2 hn
    refine ⟨b, o, hA, hXY b hX, fun i t ht => ?_⟩
    obtain ⟨v0, v1, v2, e0, e1, e2, ht'⟩ := hc i t ht
    exact ⟨v0, v1, v2, e0, e1, e2, ht'.mono hXY⟩⟩
/-- What a node is: its kind, its ranges, its kids. -/
theorem TreeAt.parts {w : World} {X : Nat → Prop} {d : Nat} {k : Int} {rs : List (UInt8 × UInt8)} {kids : List Tr} {v0 v1 v2 : Value} (h : TreeAt w X (d + 1) (.mk k rs kids) [v0, v1, v2]) :
    ∃ A n c A' n' c', v0 = .int .i64 k ∧ v1 = .slice A n c ∧ v2 = .slice A' n' c' ∧ n ≤ maxLen ∧ (n' ≤ maxLen ∧ n' ≤ c') ∧ RgAt w X A n rs ∧ KdAt w X d A' n' kids := by
  obtain ⟨A, n, c, A', n', c', h1, h2, h3, h4, h5, h6⟩ := h
  simp only [List.cons.injEq, and_true] at h1
  obtain ⟨rfl, rfl, rfl⟩ := h1
  exact ⟨A, n, c, A', n', c', rfl, rfl, rfl, h2, h3, h4, h5, h6⟩
theorem TreeAt.kind {w : World} {X : Nat → Prop} {d : Nat} {t : Tr} {v0 v1 v2 : Value} (h : TreeAt w X d t [v0, v1, v2]) : ∃ k rs ks A n c A' n' c', t = .mk k rs ks ∧ v0 = .int .i64 k ∧ v1 = .slice A n c ∧ v2 = .slice A' n' c' ∧ n ≤ maxLen ∧ RgAt w X A n rs := by
  match d, t, h with
  | d + 1, .mk k rs ks, h =>
    obtain ⟨A, n, c, A', n', c', h1, h2, h3, h4, _, h5, _⟩ := h.parts
    exact ⟨k, rs, ks, A, n, c, A', n', c', rfl, h1, h2, h3, h4, h5⟩

theorem pcOf_star {k : Int} {rs : List (UInt8 × UInt8)} {ks : List Tr} : isSet (pcOf (.mk k rs ks)) = (k != 4) := by
  unfold pcOf
  by_cases h : k = 4
  · simp [h, isSet]
  · simp [h, isSet]
end Go.Proofs.Ytjnhmcgjeljcmaa
