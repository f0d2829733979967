/- RexJoins: the row of the parts. -/
import Derived.Test.YtjnhmcgjeljcmaaXj
import Derived.Test.YtjnhmcgjeljcmaaGh
namespace Go.Proofs.Ytjnhmcgjeljcmaa
open Go.RowKit

/-- The parts gathered so far: a row of the call's own, whose trees lie below B. -/
def PRow (B : Nat) (W wr : World) (v : Value) (acc : List Tr) (D : Nat) : Prop := ∃ cells, wr.ownsRow B 26 3 v acc.length cells ∧ KidsAt wr (· < B) D acc cells ∧ Below B W wr
theorem PRow.grow {B D : Nat} {W wr w4 : World} {v v' : Value} {acc ts : List Tr} {cells news : List Value} {n : Nat} (hown : wr.ownsRow B 26 3 v acc.length cells) (hk : KidsAt wr (· < B) D acc cells) (hb : Below B W wr) (hB : B ≤ wr.heap.size)
    (hn : KidsAt wr (· < B) D ts news) (hl : n = acc.length + ts.length) (hown4 : w4.ownsRow B 26 3 v' n (cells ++ news)) (hg : wr.grownBy w4 v.ownBlock) : PRow B W w4 v' (acc ++ ts) D := by
  have hlow : ∀ j, j < B → w4.heap[j]? = wr.heap[j]? := fun j hj => hg.block j (by omega) (own_apart hown hj)
  refine ⟨cells ++ news, ?_, (hk.keep fun j hj => hlow j hj).app (hn.keep fun j hj => hlow j hj), hb.grown hg hB (fun j hj => (hown.lt j hj).1)⟩
  rw [List.length_append, ← hl]; exact hown4
/-- The parts of a node, as cells: of an Alt its kids', else its own. -/
theorem parts_alt {w : World} {X : Nat → Prop} {d : Nat} {t : Tr} {k : Int} {A : Option Addr} {n c : Nat} {A' : Option Addr} {n' c' : Nat} (h : TreeAt w X (d + 1) t [.int .i64 k, .slice A n c, .slice A' n' c']) (hk : k = 3) (hne : partsT t ≠ []) :
    ∃ b o news, A' = some ⟨b, o, none⟩ ∧ 0 < n' ∧ n' = (partsT t).length ∧ KidsAt w X d (partsT t) news ∧ (∀ j u, news[j]? = some u → w.cell? ((⟨b, o, none⟩ : Addr).add j) = some u) ∧ ∀ u ∈ news, u.oneCell' = true := by
  obtain ⟨k0, rs, kids⟩ := t
  obtain ⟨B, m, e, B', m', e', v0, v1, v2, h1, h2, h3, h4⟩ := h.parts
  injection v0 with _ v0
  injection v2 with v2 v3 _
  subst v2 v3
  have hp : partsT (.mk k0 rs kids) = kids := by
    have h3 : kindT (.mk k0 rs kids) = 3 := by show k0 = 3; omega
    unfold partsT; rw [if_pos h3]; rfl
  rw [hp] at hne ⊢
  have hn' : 0 < n' := by
    have := h4.1
    have : kids.length ≠ 0 := by simpa using hne
    omega
  obtain ⟨b, o, hA, _, hc⟩ := h4.2 hn'
  obtain ⟨news, g1, g2, g3⟩ := kids_cells kids o hc
  exact ⟨b, o, news, hA, hn', h4.1.symm, g1, fun j u hu => by rw [Addr.add_mid]; exact g2 j u hu, g3⟩
theorem parts_one {t : Tr} {w : World} {X : Nat → Prop} {d : Nat} {k : Int} {A : Option Addr} {n c : Nat} {A' : Option Addr} {n' c' : Nat} (h : TreeAt w X d t [.int .i64 k, .slice A n c, .slice A' n' c']) (hk : k ≠ 3) :
    partsT t = [t] ∧ KidsAt w X d (partsT t) [.int .i64 k, .slice A n c, .slice A' n' c'] := by
  obtain ⟨k0, rs, kids⟩ := t
  have hh := h.heads.1
  have hp : partsT (.mk k0 rs kids) = [.mk k0 rs kids] := by
    have h3 : kindT (.mk k0 rs kids) ≠ 3 := by show k0 ≠ 3; omega
    unfold partsT; rw [if_neg h3]
  rw [hp]
  exact ⟨rfl, KidsAt.snoc (ts := []) (cells := []) (KidsAt.nil _ _ _) h⟩
theorem TreeAt.up {w w' : World} {X : Nat → Prop} {d d' : Nat} {t : Tr} {cs : List Value} (h : TreeAt w X d t cs) (hX : ∀ j, X j → j < w.heap.size) (hb : Below w.heap.size w w') (hd : d ≤ d') : TreeAt w' (· < w'.heap.size) d' t cs :=
  ((h.keep (w' := w') fun j hj => hb.block j (hX j hj)).mono fun j hj => Nat.lt_of_lt_of_le (hX j hj) hb.size).deeper hd
theorem ownsRow_lit6 (w : World) (B e : Nat) (v0 v1 v2 v3 v4 v5 : Value) (hB : B ≤ w.heap.size) : (w.alloc (.cells #[v0, v1, v2, v3, v4, v5] e)).ownsRow B e 3 (.slice (some ⟨w.heap.size, 0, none⟩) 2 2) 2 [v0, v1, v2, v3, v4, v5] :=
  ⟨rfl, .inr ⟨w.heap.size, 2, _, rfl, hB, heap_alloc_new w _, Nat.le_refl _, by decide, rfl, rfl⟩⟩
theorem two_tree {w : World} {d : Nat} {a b : Tr} {v0 v1 v2 v3 v4 v5 : Value} (ha : TreeAt w (· < w.heap.size) d a [v0, v1, v2]) (hb : TreeAt w (· < w.heap.size) d b [v3, v4, v5]) :
    TreeAt (w.alloc (.cells #[v0, v1, v2, v3, v4, v5] 26)) (· < (w.alloc (.cells #[v0, v1, v2, v3, v4, v5] 26)).heap.size) (d + 1) (.mk 2 [] [a, b]) [.int .i64 2, .slice none 0 0, .slice (some ⟨w.heap.size, 0, none⟩) 2 2] := by
  have hal := (Below.refl w.heap.size w).alloc (Nat.le_refl _) (.cells #[v0, v1, v2, v3, v4, v5] 26)
  refine tree_node (ts := [a, b]) (ownsRow_lit6 w 0 26 v0 v1 v2 v3 v4 v5 (Nat.zero_le _)) ?_ (fun j hj => ?_)
  · exact KidsAt.snoc (ts := [a]) (cells := [v0, v1, v2]) (KidsAt.snoc (ts := []) (cells := []) (KidsAt.nil _ _ _) (ha.up (fun _ h => h) hal (Nat.le_refl _))) (hb.up (fun _ h => h) hal (Nat.le_refl _))
  · simp only [Value.ownBlock, Option.some.injEq] at hj
    subst hj; simp
end Go.Proofs.Ytjnhmcgjeljcmaa
