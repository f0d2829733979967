/- RexJoins: the row of the parts. The examples of Text (telling). -/
import Derived.Test.YtjnhmcgjeljcmaaXj
import Derived.Test.YtjnhmcgjeljcmaaGh
import Derived.Test.YtjnhmcgjeljcmaaWq
namespace Go.Proofs.Ytjnhmcgjeljcmaa
open Go.RowKit

/-- The parts gathered so far: a row of the call's own, whose trees lie below B. -/
def PRow (B : Nat) (W wr : World) (v : Value) (acc : List Tr) (D : Nat) : Prop := ∃ cells, wr.ownsRow B 26 3 v acc.length cells ∧ KidsAt wr (· < B) D acc cells ∧ Below B W wr
theorem PRow.grow {B D : Nat} {W wr w4 : World} {v v' : Value} {acc ts : List Tr} {cells news : List Value} {n : Nat} (hown : wr.ownsRow B 26 3 v acc.length cells) (hk : KidsAt wr (· < B) D acc cells) (hb : Below B W wr) (hB : B ≤ wr.heap.size)
    (hn : KidsAt wr (· < B) D ts news) (hl : n = acc.length + ts.length) (hown4 : w4.ownsRow B 26 3 v' n (cells ++ news)) (hg : wr.grownBy w4 v.ownBlock) : PRow B W w4 v' (acc ++ ts) D := by
  have hlow : ∀ j, j < B → w4.heap[j]? = wr.heap[j]? := fun j hj => hg.block j (by omega) (own_apart hown hj)
  refine ⟨cells ++ news, ?_, (hk.keep fun j hj => hlow j hj).app (hn.keep fun j hj => hlow j hj), hb.grown hg hB (fun j hj => (hown.lt j hj).1)⟩
  rw [List.length_append, ← hl]; exact hown4
/-- The parts of a node, as cells: of an Alt its kids', else its own. -/
theorem parts_alt {w : World} {X : Nat → Prop} {d : Nat} {t : Tr} {k : Int} {A : Option Addr} {n c : Nat} {A' : Option Addr} {n' c' : Nat} (h : TreeAt w X (d + 1) t [.int .i64 k, .slice A n c, .slice A' n' c']) (hk : k = 3) (hne : partsT t ≠ []) :
    ∃ b o news, A' = some ⟨b, o, none⟩ ∧ 0 < n' ∧ n' = (partsT t).length ∧ KidsAt w X d (partsT t) news ∧ (∀ j u, news[j]? = some u → w.cell? ((⟨b, o, none⟩ : Addr).add j) = some u) ∧ ∀ u ∈ news, u.oneCell' = true := by
  obtain ⟨k0, rs, kids⟩ := t
  obtain ⟨B, m, e, B', m', e', v0, v1, v2, h1, h2, h3, h4⟩ := h.parts
  injection v0 with _ v0
  injection v2 with v2 v3 _
  subst v2 v3
  have hp : partsT (.mk k0 rs kids) = kids := by
    have h3 : kindT (.mk k0 rs kids) = 3 := by show k0 = 3; omega
    unfold partsT; rw [if_pos h3]; rfl
  rw [hp] at hne ⊢
  have hn' : 0 < n' := by
    have := h4.1
    have : kids.length ≠ 0 := by simpa using hne
    omega
  obtain ⟨b, o, hA, _, hc⟩ := h4.2 hn'
  obtain ⟨news, g1, g2, g3⟩ := kids_cells kids o hc
  exact ⟨b, o, news, hA, hn', h4.1.symm, g1, fun j u hu => by rw [Addr.add_mid]; exact g2 j u hu, g3⟩
theorem parts_one {t : Tr} {w : World} {X : Nat → Prop} {d : Nat} {k : Int} {A : Option Addr} {n c : Nat} {A' : Option Addr} {n' c' : Nat} (h : TreeAt w X d t [.int .i64 k, .slice A n c, .slice A' n' c']) (hk : k ≠ 3) :
    partsT t = [t] ∧ KidsAt w X d (partsT t) [.int .i64 k, .slice A n c, .slice A' n' c'] := by
  obtain ⟨k0, rs, kids⟩ := t
  have hh := h.heads.1
  have hp : partsT (.mk k0 rs kids) = [.mk k0 rs kids] := by
    have h3 : kindT (.mk k0 rs kids) ≠ 3 := by show k0 ≠ 3; omega
    unfold partsT; rw [if_neg h3]
  rw [hp]
  exact ⟨rfl, KidsAt.snoc (ts := []) (cells := []) (KidsAt.nil _ _ _) h⟩
theorem TreeAt.up {w w' : World} {X : Nat → Prop} {d d' : Nat} {t : Tr} {cs : List Value} (h : TreeAt w X d t cs) (hX : ∀ j, X j → j < w.heap.size) (hb : Below w.heap.size w w') (hd : d ≤ d') : TreeAt w' (· < w'.heap.size) d' t cs :=
  ((h.keep (w' := w') fun j hj => hb.block j (hX j hj)).mono fun j hj => Nat.lt_of_lt_of_le (hX j hj) hb.size).deeper hd
theorem ownsRow_lit6 (w : World) (B e : Nat) (v0 v1 v2 v3 v4 v5 : Value) (hB : B ≤ w.heap.size) : (w.alloc (.cells #[v0, v1, v2, v3, v4, v5] e)).ownsRow B e 3 (.slice (some ⟨w.heap.size, 0, none⟩) 2 2) 2 [v0, v1, v2, v3, v4, v5] :=
  ⟨rfl, .inr ⟨w.heap.size, 2, _, rfl, hB, heap_alloc_new w _, Nat.le_refl _, by decide, rfl, rfl⟩⟩
theorem two_tree {w : World} {d : Nat} {a b : Tr} {v0 v1 v2 v3 v4 v5 : Value} (ha : TreeAt w (· < w.heap.size) d a [v0, v1, v2]) (hb : TreeAt w (· < w.heap.size) d b [v3, v4, v5]) :
    TreeAt (w.alloc (.cells #[v0, v1, v2, v3, v4, v5] 26)) (· < (w.alloc (.cells #[v0, v1, v2, v3, v4, v5] 26)).heap.size) (d + 1) (.mk 2 [] [a, b]) [.int .i64 2, .slice none 0 0, .slice (some ⟨w.heap.size, 0, none⟩) 2 2] := by
  have hal := (Below.refl w.heap.size w).alloc (Nat.le_refl _) (.cells #[v0, v1, v2, v3, v4, v5] 26)
  refine tree_node (ts := [a, b]) (ownsRow_lit6 w 0 26 v0 v1 v2 v3 v4 v5 (Nat.zero_le _)) ?_ (fun j hj => ?_)
  · exact KidsAt.snoc (ts := [a]) (cells := [v0, v1, v2]) (KidsAt.snoc (ts := []) (cells := []) (KidsAt.nil _ _ _) (ha.up (fun _ h => h) hal (Nat.le_refl _))) (hb.up (fun _ h => h) hal (Nat.le_refl _))
  · simp only [Value.ownBlock, Option.some.injEq] at hj
    subst hj; simp
end Go.Proofs.Ytjnhmcgjeljcmaa
namespace Go.Proofs.Ytjnhmcgjeljcmaa
open Go.RowKit

def telT : Tr := .mk 3 [] [.mk 2 [] [.mk 5 [] [.mk 1 [(48, 57)] []]], .mk 2 [] [.mk 1 [(46, 46)] []]]
theorem tel1 : parseX [91, 48, 45, 57, 93, 43, 124, 92, 46] = (telT, 0, 0) := by kernel_rfl
theorem tel2 : bodyT telT = [91, 48, 45, 57, 93, 43, 124, 92, 46] := by kernel_rfl
theorem tel3 : stepsT telT ≤ 100 := by decide +kernel

set_option maxHeartbeats 1000000 in
set_option maxRecDepth 100000 in
theorem telling_any (w : World) : Calls Try.prog 15 #[] w fun e w' => e = .returned (.bool true) ∧ Below w.heap.size w w' := by
  have H1 := Lib.hid (fun W => xparse_any ⟨#[91, 48, 45, 57, 93, 43, 124, 92, 46]⟩ W)
  simp only [tel1] at H1
  have H2 := Lib.hid (fun d k A n c A' n' c' W (h : TreeAt W (· < W.heap.size) d telT [.int .i64 k, .slice A n c, .slice A' n' c']) => text_any telT d k A n c A' n' c' W h (by rw [tel2]; decide) (by have := tel3; omega))
  rw [tel2] at H2
  go_enter Try.func15, Try.ntmps15
  go_wp2_with fail
  refine (H1.out _).mono ?_
  rintro e w1 ⟨d, k, A, n, c, A', n', c', rfl, ht, b1⟩
  have HT := Lib.hid (ht.up (w' := w1.alloc (.cells #[.int .i64 k, .slice A n c, .slice A' n' c'] 26)) (fun j hj => hj.2) ((Below.refl _ w1).alloc (Nat.le_refl _) _) (Nat.le_refl _))
  clear ht
  go_wp2_with fail
  refine (H2.out _ _ _ _ _ _ _ _ _ HT.out).mono ?_
  rintro e w2 ⟨rfl, b2⟩
  go_wp2
  go_ret
  have h1 := b1.alloc b1.size (.cells #[.int .i64 k, .slice A n c, .slice A' n' c'] 26)
  exact ⟨rfl, h1.trans (b2.mono h1.size)⟩
end Go.Proofs.Ytjnhmcgjeljcmaa
