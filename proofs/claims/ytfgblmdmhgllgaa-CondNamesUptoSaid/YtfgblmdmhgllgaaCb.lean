/- Conditions and boards in memory. -/
import Derived.Test.YtfgblmdmhgllgaaCa
import Derived.Test.YtfgblmdmhgllgaaBt
import Derived.Deep.RegionHeld3
namespace Go.Proofs.Ytfgblmdmhgllgaa
open Go.RowKit

/-- The four cells cs are a condition that reads as this tree, at most d deep; X: where its blocks may be. -/
def CondAt (w : World) (X : Nat → Prop) : Nat → CT → List Value → Prop
  | 0, _, _ => False
  | d + 1, .mk k n v kids, cs => ∃ A m c, cs = [.int .i64 k, .string n, .string v, .slice A m c] ∧ (n.size ≤ maxLen ∧ v.size ≤ maxLen) ∧ (m ≤ maxLen ∧ m ≤ c) ∧ kids.length = m ∧
      (0 < m → ∃ b o, A = some ⟨b, o, none⟩ ∧ X b ∧ ∀ i t, kids[i]? = some t → ∃ v0 v1 v2 v3, w.cell? ⟨b, o + i * 4, none⟩ = some v0 ∧ w.cell? ⟨b, o + i * 4 + 1, none⟩ = some v1 ∧ w.cell? ⟨b, o + i * 4 + 2, none⟩ = some v2 ∧ w.cell? ⟨b, o + i * 4 + 3, none⟩ = some v3 ∧ CondAt w X d t [v0, v1, v2, v3])
/-- A slice of conditions. -/
def KidsAt (w : World) (X : Nat → Prop) (d : Nat) (A : Option Addr) (m : Nat) (kids : List CT) : Prop := kids.length = m ∧
      (0 < m → ∃ b o, A = some ⟨b, o, none⟩ ∧ X b ∧ ∀ i t, kids[i]? = some t → ∃ v0 v1 v2 v3, w.cell? ⟨b, o + i * 4, none⟩ = some v0 ∧ w.cell? ⟨b, o + i * 4 + 1, none⟩ = some v1 ∧ w.cell? ⟨b, o + i * 4 + 2, none⟩ = some v2 ∧ w.cell? ⟨b, o + i * 4 + 3, none⟩ = some v3 ∧ CondAt w X d t [v0, v1, v2, v3])
theorem CondAt.keep {w w' : World} {X : Nat → Prop} (hk : ∀ b, X b → w'.heap[b]? = w.heap[b]?) : ∀ {d : Nat} {t : CT} {cs : List Value}, CondAt w X d t cs → CondAt w' X d t cs
  | 0, _, _, h => h
  | d + 1, .mk k n v kids, cs, h => by
    obtain ⟨A, m, c, h1, h2, h3, h4, h5⟩ := h
    refine ⟨A, m, c, h1, h2, h3, h4, fun hn => ?_⟩
    obtain ⟨b, o, hA, hX, hc⟩ := h5 hn
    refine ⟨b, o, hA, hX, fun i t ht => ?_⟩
    obtain ⟨v0, v1, v2, v3, e0, e1, e2, e3, ht'⟩ := hc i t ht
    have e := hk b hX
    exact ⟨v0, v1, v2, v3, (World.cell?_of_block (a := ⟨b, o + i * 4, none⟩) e).trans e0, (World.cell?_of_block (a := ⟨b, o + i * 4 + 1, none⟩) e).trans e1, (World.cell?_of_block (a := ⟨b, o + i * 4 + 2, none⟩) e).trans e2, (World.cell?_of_block (a := ⟨b, o + i * 4 + 3, none⟩) e).trans e3, ht'.keep hk⟩
theorem CondAt.mono {w : World} {X Y : Nat → Prop} (hXY : ∀ b, X b → Y b) : ∀ {d : Nat} {t : CT} {cs : List Value}, CondAt w X d t cs → CondAt w Y d t cs
  | 0, _, _, h => h
  | d + 1, .mk k n v kids, cs, h => by
    obtain ⟨A, m, c, h1, h2, h3, h4, h5⟩ := h
    refine ⟨A, m, c, h1, h2, h3, h4, fun hn => ?_⟩
    obtain ⟨b, o, hA, hX, hc⟩ := h5 hn
    refine ⟨b, o, hA, hXY b hX, fun i t ht => ?_⟩
    obtain ⟨v0, v1, v2, v3, e0, e1, e2, e3, ht'⟩ := hc i t ht
    exact ⟨v0, v1, v2, v3, e0, e1, e2, e3, ht'.mono hXY⟩
theorem CondAt.deeper {w : World} {X : Nat → Prop} : ∀ {d d' : Nat} {t : CT} {cs : List Value}, CondAt w X d t cs → d ≤ d' → CondAt w X d' t cs
  | 0, _, _, _, h, _ => h.elim
  | d + 1, d', .mk k n v kids, cs, h, hd => by
    match d', hd with
    | d' + 1, hd =>
      obtain ⟨A, m, c, h1, h2, h3, h4, h5⟩ := h
      refine ⟨A, m, c, h1, h2, h3, h4, fun hn => ?_⟩
      obtain ⟨b, o, hA, hX, hc⟩ := h5 hn
      refine ⟨b, o, hA, hX, fun i t ht => ?_⟩
      obtain ⟨v0, v1, v2, v3, e0, e1, e2, e3, ht'⟩ := hc i t ht
      exact ⟨v0, v1, v2, v3, e0, e1, e2, e3, ht'.deeper (by omega)⟩
/-- A condition's four cells. -/
theorem CondAt.form {w : World} {X : Nat → Prop} {D : Nat} {t : CT} {cs : List Value} (h : CondAt w X D t cs) : ∃ d k n v kids A m c, D = d + 1 ∧ t = .mk k n v kids ∧ cs = [.int .i64 k, .string n, .string v, .slice A m c] ∧ n.size ≤ maxLen ∧ v.size ≤ maxLen ∧ m ≤ maxLen ∧ m ≤ c ∧ KidsAt w X d A m kids := by
  match D, t, h with
  | d + 1, .mk k n v kids, h =>
    obtain ⟨A, m, c, h1, h2, h3, h4⟩ := h
    exact ⟨d, k, n, v, kids, A, m, c, rfl, rfl, h1, h2.1, h2.2, h3.1, h3.2, h4⟩
theorem CondAt.of {w : World} {X : Nat → Prop} {d : Nat} {k : Int} {n v : ByteArray} {kids : List CT} {A : Option Addr} {m c : Nat} (hn : n.size ≤ maxLen) (hv : v.size ≤ maxLen) (hm : m ≤ maxLen) (hc : m ≤ c) (h : KidsAt w X d A m kids) : CondAt w X (d + 1) (.mk k n v kids) [.int .i64 k, .string n, .string v, .slice A m c] :=
  ⟨A, m, c, rfl, ⟨hn, hv⟩, ⟨hm, hc⟩, h⟩
theorem KidsAt.keep {w w' : World} {X : Nat → Prop} {d m : Nat} {A : Option Addr} {kids : List CT} (hk : ∀ b, X b → w'.heap[b]? = w.heap[b]?) (h : KidsAt w X d A m kids) : KidsAt w' X d A m kids := by
  refine ⟨h.1, fun hn => ?_⟩
  obtain ⟨b, o, hA, hX, hc⟩ := h.2 hn
  refine ⟨b, o, hA, hX, fun i t ht => ?_⟩
  obtain ⟨v0, v1, v2, v3, e0, e1, e2, e3, ht'⟩ := hc i t ht
  have e := hk b hX
  exact ⟨v0, v1, v2, v3, (World.cell?_of_block (a := ⟨b, o + i * 4, none⟩) e).trans e0, (World.cell?_of_block (a := ⟨b, o + i * 4 + 1, none⟩) e).trans e1, (World.cell?_of_block (a := ⟨b, o + i * 4 + 2, none⟩) e).trans e2, (World.cell?_of_block (a := ⟨b, o + i * 4 + 3, none⟩) e).trans e3, ht'.keep hk⟩
theorem KidsAt.mono {w : World} {X Y : Nat → Prop} {d m : Nat} {A : Option Addr} {kids : List CT} (hXY : ∀ b, X b → Y b) (h : KidsAt w X d A m kids) : KidsAt w Y d A m kids := by
  refine ⟨h.1, fun hn => ?_⟩
  obtain ⟨b, o, hA, hX, hc⟩ := h.2 hn
  refine ⟨b, o, hA, hXY b hX, fun i t ht => ?_⟩
  obtain ⟨v0, v1, v2, v3, e0, e1, e2, e3, ht'⟩ := hc i t ht
  exact ⟨v0, v1, v2, v3, e0, e1, e2, e3, ht'.mono hXY⟩
theorem KidsAt.deeper {w : World} {X : Nat → Prop} {d d' m : Nat} {A : Option Addr} {kids : List CT} (h : KidsAt w X d A m kids) (hd : d ≤ d') : KidsAt w X d' A m kids := by
  refine ⟨h.1, fun hn => ?_⟩
  obtain ⟨b, o, hA, hX, hc⟩ := h.2 hn
  refine ⟨b, o, hA, hX, fun i t ht => ?_⟩
  obtain ⟨v0, v1, v2, v3, e0, e1, e2, e3, ht'⟩ := hc i t ht
  exact ⟨v0, v1, v2, v3, e0, e1, e2, e3, ht'.deeper hd⟩
/-- .. and it stays while what was there stays. -/
theorem CondAt.below {w w' : World} {d : Nat} {t : CT} {cs : List Value} (h : CondAt w (· < w.heap.size) d t cs) (hb : Below w.heap.size w w') : CondAt w' (· < w'.heap.size) d t cs :=
  (h.keep fun b hlt => hb.block b hlt).mono fun _ hlt => Nat.lt_of_lt_of_le hlt hb.size
theorem KidsAt.below {w w' : World} {d m : Nat} {A : Option Addr} {kids : List CT} (h : KidsAt w (· < w.heap.size) d A m kids) (hb : Below w.heap.size w w') : KidsAt w' (· < w'.heap.size) d A m kids :=
  (h.keep fun b hlt => hb.block b hlt).mono fun _ hlt => Nat.lt_of_lt_of_le hlt hb.size
theorem CondAt.drewB {w : World} {d : Nat} {t : CT} {cs : List Value} (h : CondAt w (· < w.heap.size) d t cs) : CondAt w.drew (· < w.drew.heap.size) d t cs := CondAt.keep (w := w) (w' := w.drew) (fun _ _ => rfl) h
theorem KidsAt.drewB {w : World} {d m : Nat} {A : Option Addr} {kids : List CT} (h : KidsAt w (· < w.heap.size) d A m kids) : KidsAt w.drew (· < w.drew.heap.size) d A m kids := KidsAt.keep (w := w) (w' := w.drew) (fun _ _ => rfl) h
/-- The i-th kid's cells. -/
theorem KidsAt.get {w : World} {X : Nat → Prop} {d m i : Nat} {A : Option Addr} {kids : List CT} (h : KidsAt w X d A m kids) (hi : i < m) : ∃ b o t v0 v1 v2 v3, A = some ⟨b, o, none⟩ ∧ X b ∧ kids[i]? = some t ∧ w.cell? ⟨b, o + i * 4, none⟩ = some v0 ∧ w.cell? ⟨b, o + i * 4 + 1, none⟩ = some v1 ∧ w.cell? ⟨b, o + i * 4 + 2, none⟩ = some v2 ∧ w.cell? ⟨b, o + i * 4 + 3, none⟩ = some v3 ∧ CondAt w X d t [v0, v1, v2, v3] := by
  obtain ⟨b, o, hA, hX, hc⟩ := h.2 (by omega)
  have hi' : i < kids.length := by have := h.1; omega
  obtain ⟨v0, v1, v2, v3, e0, e1, e2, e3, ht'⟩ := hc i kids[i] (List.getElem?_eq_getElem hi')
  exact ⟨b, o, kids[i], v0, v1, v2, v3, hA, hX, List.getElem?_eq_getElem hi', e0, e1, e2, e3, ht'⟩
/-- .. each with its form. -/
theorem KidsAt.kid {w : World} {X : Nat → Prop} {d m i : Nat} {A : Option Addr} {kids : List CT} (h : KidsAt w X d A m kids) (hi : i < m) : ∃ b o t k n v B q c, A = some ⟨b, o, none⟩ ∧ X b ∧ kids[i]? = some t ∧ w.cell? ⟨b, o + i * 4, none⟩ = some (.int .i64 k) ∧ w.cell? ⟨b, o + i * 4 + 1, none⟩ = some (.string n) ∧ w.cell? ⟨b, o + i * 4 + 2, none⟩ = some (.string v) ∧ w.cell? ⟨b, o + i * 4 + 3, none⟩ = some (.slice B q c) ∧ CondAt w X d t [.int .i64 k, .string n, .string v, .slice B q c] := by
  obtain ⟨b, o, t, v0, v1, v2, v3, hA, hX, ht, e0, e1, e2, e3, hc⟩ := h.get hi
  obtain ⟨_, k, n, v, _, B, q, c, _, _, hcs, _⟩ := hc.form
  simp only [List.cons.injEq, and_true] at hcs
  obtain ⟨rfl, rfl, rfl, rfl⟩ := hcs
  exact ⟨b, o, t, k, n, v, B, q, c, hA, hX, ht, e0, e1, e2, e3, hc⟩
/-- A board's properties. -/
def PropsAt (w : World) (X : Nat → Prop) (A : Option Addr) (m : Nat) (ps : Props) : Prop := ps.length = m ∧ (∀ p ∈ ps, p.1.size ≤ maxLen ∧ p.2.size ≤ maxLen) ∧
      (0 < m → ∃ b o, A = some ⟨b, o, none⟩ ∧ X b ∧ ∀ i p, ps[i]? = some p → w.cell? ⟨b, o + i * 2, none⟩ = some (.string p.1) ∧ w.cell? ⟨b, o + i * 2 + 1, none⟩ = some (.string p.2))
theorem PropsAt.keep {w w' : World} {X : Nat → Prop} {m : Nat} {A : Option Addr} {ps : Props} (hk : ∀ b, X b → w'.heap[b]? = w.heap[b]?) (h : PropsAt w X A m ps) : PropsAt w' X A m ps := by
  refine ⟨h.1, h.2.1, fun hn => ?_⟩
  obtain ⟨b, o, hA, hX, hc⟩ := h.2.2 hn
  refine ⟨b, o, hA, hX, fun i p hp => ?_⟩
  obtain ⟨e0, e1⟩ := hc i p hp
  have e := hk b hX
  exact ⟨(World.cell?_of_block (a := ⟨b, o + i * 2, none⟩) e).trans e0, (World.cell?_of_block (a := ⟨b, o + i * 2 + 1, none⟩) e).trans e1⟩
theorem PropsAt.mono {w : World} {X Y : Nat → Prop} {m : Nat} {A : Option Addr} {ps : Props} (hXY : ∀ b, X b → Y b) (h : PropsAt w X A m ps) : PropsAt w Y A m ps := by
  refine ⟨h.1, h.2.1, fun hn => ?_⟩
  obtain ⟨b, o, hA, hX, hc⟩ := h.2.2 hn
  exact ⟨b, o, hA, hXY b hX, hc⟩
theorem PropsAt.below {w w' : World} {m : Nat} {A : Option Addr} {ps : Props} (h : PropsAt w (· < w.heap.size) A m ps) (hb : Below w.heap.size w w') : PropsAt w' (· < w'.heap.size) A m ps :=
  (h.keep fun b hlt => hb.block b hlt).mono fun _ hlt => Nat.lt_of_lt_of_le hlt hb.size
theorem PropsAt.drewB {w : World} {m : Nat} {A : Option Addr} {ps : Props} (h : PropsAt w (· < w.heap.size) A m ps) : PropsAt w.drew (· < w.drew.heap.size) A m ps := PropsAt.keep (w := w) (w' := w.drew) (fun _ _ => rfl) h
theorem Below.undrew {w w' : World} (h : Below w.drew.heap.size w.drew w') : Below w.heap.size w w' := ⟨h.os, h.tape, h.output, h.size, h.block⟩
theorem PropsAt.get {w : World} {X : Nat → Prop} {m i : Nat} {A : Option Addr} {ps : Props} (h : PropsAt w X A m ps) (hi : i < m) : ∃ b o p, A = some ⟨b, o, none⟩ ∧ X b ∧ ps[i]? = some p ∧ p.1.size ≤ maxLen ∧ p.2.size ≤ maxLen ∧ w.cell? ⟨b, o + i * 2, none⟩ = some (.string p.1) ∧ w.cell? ⟨b, o + i * 2 + 1, none⟩ = some (.string p.2) := by
  obtain ⟨b, o, hA, hX, hc⟩ := h.2.2 (by omega)
  have hi' : i < ps.length := by have := h.1; omega
  obtain ⟨e0, e1⟩ := hc i ps[i] (List.getElem?_eq_getElem hi')
  have hb := h.2.1 ps[i] (List.getElem_mem hi')
  exact ⟨b, o, ps[i], hA, hX, List.getElem?_eq_getElem hi', hb.1, hb.2, e0, e1⟩
end Go.Proofs.Ytfgblmdmhgllgaa
