/- PackReads: the law's call of Read, in the world where its three slices are new. -/
import Derived.Test.YteokiaeojgjpdaaRi
namespace Go.Proofs.Yteokiaeojgjpdaa
open Go.RowKit Go.Maps
/-- Three empty slices in variables of their own. -/
def three (w : World) : World := ((((((w.alloc (.cells #[] 2)).alloc (.cells #[.slice (some ⟨w.heap.size, 0, none⟩) 0 0] 73)).alloc (.cells #[] 9)).alloc (.cells #[.slice (some ⟨w.heap.size + 1 + 1, 0, none⟩) 0 0] 74)).alloc (.cells #[] 3)).alloc (.cells #[.slice (some ⟨w.heap.size + 1 + 1 + 1 + 1, 0, none⟩) 0 0] 55))
theorem Blk.newAt {w : World} {g : Nat} {t : TypeId} {cs : Array Value} (h : w.heap.size = g) : Blk (w.alloc (.cells cs t)) g t cs := by subst h; exact Blk.new w t cs
theorem var_new {w : World} {B g p : Nat} {tS tE : TypeId} (h : Blk w p tS #[.slice (some ⟨g, 0, none⟩) 0 0]) (hg : Blk w g tE #[]) (hB : B ≤ g) : VarAt w B tS tE p (.slice (some ⟨g, 0, none⟩) 0 0) [] :=
  ⟨h, ⟨by simp, .inr ⟨g, 0, #[], rfl, hB, hg, Nat.le_refl _, by decide, rfl, rfl⟩⟩, g, rfl⟩
theorem three_size (w : World) : (three w).heap.size = w.heap.size + 6 := by simp [three]
theorem three_below {w w1 : World} {N : Nat} (h : Below N w w1) (hN : N ≤ w.heap.size) : Below N w (three w1) := by
  have := h.size
  unfold three
  exact (((((h.alloc (by omega) _).alloc (by simp; omega) _).alloc (by simp; omega) _).alloc (by simp; omega) _).alloc (by simp; omega) _).alloc (by simp; omega) _
theorem got_new {N0 p3 m c : Nat} {A : Option Addr} {bs : List UInt8} {w : World} (h3 : Blk w p3 55 #[.slice A m c]) :
    Got N0 w.heap.size p3 (w.heap.size + 1) (w.heap.size + 1 + 1 + 1) (w.heap.size + 1 + 1 + 1 + 1 + 1) A m c ⟨[], [], [], bs⟩ (three w) := by
  refine ⟨(((((h3.alloc _).alloc _).alloc _).alloc _).alloc _).alloc _, ⟨_, var_new (g := w.heap.size) ?_ ?_ (Nat.le_refl _)⟩, ⟨_, var_new (g := w.heap.size + 1 + 1) ?_ ?_ (by omega)⟩, ⟨_, var_new (g := w.heap.size + 1 + 1 + 1 + 1) ?_ ?_ (by omega)⟩⟩
  · exact ((((Blk.newAt (by simp)).alloc _).alloc _).alloc _).alloc _
  · exact (((((Blk.newAt rfl).alloc _).alloc _).alloc _).alloc _).alloc _
  · exact ((Blk.newAt (by simp)).alloc _).alloc _
  · exact (((Blk.newAt (by simp)).alloc _).alloc _).alloc _
  · exact Blk.newAt (by simp)
  · exact (Blk.newAt (by simp)).alloc _
set_option maxRecDepth 100000 in
/-- The law's call of Read. -/
theorem read_here {n k m c p3 N0 : Nat} {D A : Option Addr} {calls : List Int} {bs : List UInt8} {w : World} (hb : BytesAt w D n bs) (hnk : n ≤ k) (hn : n ≤ maxLen) (hD : ∀ b o, D = some ⟨b, o, none⟩ → b < N0)
    (h3 : Blk w p3 55 #[.slice A m c]) (hci : IntsAt w A m calls) (hA : ∀ b o, A = some ⟨b, o, none⟩ → b < N0) (hm : m ≤ 2000000) (hp : N0 ≤ p3) :
    Calls Try.prog 35 #[.slice D n k, .func (.func 36) #[] #[.pointer (some ⟨p3, 0, none⟩), .pointer (some ⟨w.heap.size + 1, 0, none⟩), .pointer (some ⟨w.heap.size + 1 + 1 + 1, 0, none⟩), .pointer (some ⟨w.heap.size + 1 + 1 + 1 + 1 + 1, 0, none⟩)]] (three w)
      fun e w' => e = .returned (.int .i64 (if (goC calls ⟨[], [], [], bs⟩).2 && (goC calls ⟨[], [], [], bs⟩).1.rest.isEmpty then 0 else 80)) ∧ Got N0 w.heap.size p3 (w.heap.size + 1) (w.heap.size + 1 + 1 + 1) (w.heap.size + 1 + 1 + 1 + 1 + 1) A m c (goC calls ⟨[], [], [], bs⟩).1 w' ∧ Below N0 (three w) w' := by
  have lt := h3.lt
  have hB := three_below (Below.refl w.heap.size w) (Nat.le_refl _)
  have k0 := kept_below (X := fun _ => False) hB
  have hs := three_size w
  exact reads_run (hb.below hB) hnk hn hD (got_new h3) (hci.keepN hB.size fun b o e => k0.block b (by have := hA b o e; omega) id) hA ⟨hp, by omega, by omega, by omega, by omega, by omega, by omega⟩ hm rfl
/-- The elements of such a variable's slice, read. -/
theorem VarAt.reads {w : World} {B : Nat} {tS tE : TypeId} {p : Nat} {U : Value} {xs : List Value} (h : VarAt w B tS tE p U xs) : ∃ g cap, U = .slice (some ⟨g, 0, none⟩) xs.length cap ∧ w.cell? ⟨p, 0, none⟩ = some U ∧ ∀ i x, xs[i]? = some x → w.cell? ⟨g, i, none⟩ = some x := by
  obtain ⟨g0, hg0⟩ := h.own
  rcases h.row.2 with ⟨e, _⟩ | ⟨g, cap, cur, e, h1, h2, h3, h4, h5, h6⟩
  · rw [e] at hg0; cases hg0
  · refine ⟨g, cap, e, h.blk.cell 0, fun i x hx => ?_⟩
    have hxi : cur[i]? = some x := by
      rw [← h6] at hx
      rw [List.getElem?_take] at hx
      split at hx
      · simpa using hx
      · cases hx
    exact (Blk.cell (show Blk w g tE cur from h2) i).trans hxi
end Go.Proofs.Yteokiaeojgjpdaa
