/- SumParts: its three totals in whatever order their memory comes: the relation. -/
import Derived.Test.YtplenagncmhhoaaDoorSoB
namespace Go.Proofs.YtplenagncmhhoaaDoor
open Go.RowKit

def zero8 : Array Value := #[.int .i64 0, .int .i64 0, .int .i64 0, .int .i64 0, .int .i64 0, .int .i64 0, .int .i64 0, .int .i64 0]
/-- Three loads and calls into the slots 113 .. 118, three new arrays at the slots 12, 13, 14, three stores. -/
structure R19 (w0 : World) (a0 : Act) (vals : Nat → Value) (tots : Nat → Array Value) (f : Nat → Bool) (a : Act) (w : World) : Prop where
  size : a.tmps.size = 134
  defers : a.defers = a0.defers
  keep : ∀ t, ¬ (12 ≤ t ∧ t ≤ 14) → ¬ (113 ≤ t ∧ t ≤ 118) → sl a t = sl a0 t
  below : Below w0.heap.size w0 w
  val : ∀ i, i < 6 → f i = true → sl a (113 + i) = vals i
  ord : ∀ k, k < 3 → f (9 + k) = true → f (6 + k) = true
  arr : ∀ k, k < 3 → f (6 + k) = true → ∃ p, sl a (12 + k) = .pointer (some ⟨p, 0, none⟩) ∧ w0.heap.size ≤ p ∧ Blk w p 31 (if f (9 + k) = true then tots k else zero8)
  ne : ∀ k k', k < 3 → k' < 3 → k ≠ k' → f (6 + k) = true → f (6 + k') = true → sl a (12 + k) ≠ sl a (12 + k')
section
variable {w0 : World} {a0 : Act} {vals : Nat → Value} {tots : Nat → Array Value} {f : Nat → Bool} {a : Act} {w : World}
theorem R19.start {a : Act} {w : World} (h : a.tmps.size = 134) : R19 w a vals tots (fun _ => false) a w.drew :=
  ⟨h, rfl, fun _ _ _ => rfl, (Below.refl w.heap.size w).drew, fun _ _ h => (by cases h), fun _ _ h => (by cases h), fun _ _ h => (by cases h), fun _ _ _ _ _ h => (by cases h)⟩
theorem up_ne {f : Nat → Bool} {i j : Nat} (h : j ≠ i) : upF f i j = f j := if_neg h
theorem up_eq {f : Nat → Bool} {i : Nat} : upF f i i = true := if_pos rfl
theorem R19.value (h : R19 w0 a0 vals tots f a w) {w' : World} (hb : Below w.heap.size w w') {i d : Nat} (hi : i < 6) (hd : d = 113 + i) {v : Value} (hv : v = vals i) : R19 w0 a0 vals tots (upF f i) (a.put (some d) v) w' := by
  subst hd
  have hs := h.size
  have hput : ∀ t, t ≠ 113 + i → sl (a.put (some (113 + i)) v) t = sl a t := fun t ht => by rw [sl_put _ _ _ _ (by omega), if_neg ht]
  refine ⟨by rw [put_size]; exact hs, h.defers, fun t h1 h2 => ?_, h.below.trans (hb.mono h.below.size), fun j hj hf => ?_, fun k hk hf => ?_, fun k hk hf => ?_, fun k k' hk hk' hn h1 h2 => ?_⟩
  · rw [hput t (by omega)]; exact h.keep t h1 h2
  · by_cases hji : j = i
    · subst hji
      rw [sl_put _ _ _ _ (by omega), if_pos rfl, hv]
    · rw [hput _ (by omega)]
      exact h.val j hj (by rwa [up_ne hji] at hf)
  · rw [up_ne (by omega)] at hf ⊢
    exact h.ord k hk hf
  · rw [up_ne (by omega)] at hf
    obtain ⟨p, e, hp, hk2⟩ := h.arr k hk hf
    refine ⟨p, by rw [hput _ (by omega)]; exact e, hp, ?_⟩
    rw [up_ne (by omega)]
    exact hk2.below hb hk2.lt
  · rw [up_ne (by omega)] at h1 h2
    rw [hput _ (by omega), hput _ (by omega)]
    exact h.ne k k' hk hk' hn h1 h2
theorem R19.made (h : R19 w0 a0 vals tots f a w) {k i d : Nat} (hk : k < 3) (hi : i = 6 + k) (hd : d = 12 + k) (hf : f i = false) : R19 w0 a0 vals tots (upF f i) (a.put (some d) (.pointer (some ⟨w.heap.size, 0, none⟩))) (w.alloc (.cells zero8 31)) := by
  subst hi hd
  have hs := h.size
  have hput : ∀ t, t ≠ 12 + k → sl (a.put (some (12 + k)) (.pointer (some ⟨w.heap.size, 0, none⟩))) t = sl a t := fun t ht => by rw [sl_put _ _ _ _ (by omega), if_neg ht]
  have hown : sl (a.put (some (12 + k)) (.pointer (some ⟨w.heap.size, 0, none⟩))) (12 + k) = .pointer (some ⟨w.heap.size, 0, none⟩) := by rw [sl_put _ _ _ _ (by omega), if_pos rfl]
  have hnew : ∀ k', k' < 3 → f (6 + k') = true → sl a (12 + k') ≠ .pointer (some ⟨w.heap.size, 0, none⟩) := fun k' hk' hf' e => by
    obtain ⟨p, e2, _, hb⟩ := h.arr k' hk' hf'
    rw [e2] at e
    injection e with e
    injection e with e
    injection e with e
    have := hb.lt
    omega
  refine ⟨by rw [put_size]; exact hs, h.defers, fun t h1 h2 => ?_, h.below.alloc h.below.size _, fun j hj hf' => ?_, fun k' hk' hf' => ?_, fun k' hk' hf' => ?_, fun k1 k2 hk1 hk2 hn h1 h2 => ?_⟩
  · rw [hput t (by omega)]; exact h.keep t h1 h2
  · rw [up_ne (by omega)] at hf'
    rw [hput _ (by omega)]
    exact h.val j hj hf'
  · rw [up_ne (by omega)] at hf'
    by_cases hkk : k' = k
    · subst hkk; exact up_eq
    · rw [up_ne (by omega)]; exact h.ord k' hk' hf'
  · by_cases hkk : k' = k
    · subst hkk
      have h9 : f (9 + k') = false := by
        cases hb : f (9 + k') with
        | false => rfl
        | true => rw [h.ord k' hk' hb] at hf; cases hf
      refine ⟨_, hown, h.below.size, ?_⟩
      rw [up_ne (by omega), h9]
      exact Blk.new w 31 zero8
    · rw [up_ne (by omega)] at hf'
      obtain ⟨p, e, hp, hb⟩ := h.arr k' hk' hf'
      refine ⟨p, by rw [hput _ (by omega)]; exact e, hp, ?_⟩
      rw [up_ne (by omega)]
      exact hb.alloc _
  · by_cases e1 : k1 = k
    · subst e1
      rw [hown, hput _ (by omega)]
      rw [up_ne (by omega)] at h2
      exact fun e => hnew k2 hk2 h2 e.symm
    · by_cases e2 : k2 = k
      · subst e2
        rw [hown, hput _ (by omega)]
        rw [up_ne (by omega)] at h1
        exact hnew k1 hk1 h1
      · rw [up_ne (by omega)] at h1 h2
        rw [hput _ (by omega), hput _ (by omega)]
        exact h.ne k1 k2 hk1 hk2 hn h1 h2
theorem R19.stored (h : R19 w0 a0 vals tots f a w) {k i p : Nat} {v : Value} (hk : k < 3) (hi : i = 9 + k) (hf : f (6 + k) = true) (hp : sl a (12 + k) = .pointer (some ⟨p, 0, none⟩)) {w' : World} (hb : Blk w' p 31 (tots k)) (ho : ∀ j, j ≠ p → w'.heap[j]? = w.heap[j]?)
    (h1 : w'.os = w.os) (h2 : w'.tape = w.tape) (h3 : w'.output = w.output) (h4 : w'.heap.size = w.heap.size) : R19 w0 a0 vals tots (upF f i) (a.put none v) w' := by
  subst hi
  obtain ⟨p', e, hpl, _⟩ := h.arr k hk hf
  rw [hp] at e
  injection e with e
  injection e with e
  injection e with e
  subst e
  refine ⟨h.size, h.defers, h.keep, h.below.trans ⟨h1, h2, h3, by omega, fun j hj => ho j (by omega)⟩, fun j hj hf' => ?_, fun k' hk' hf' => ?_, fun k' hk' hf' => ?_, fun k1 k2 hk1 hk2 hn g1 g2 => ?_⟩
  · rw [up_ne (by omega)] at hf'
    exact h.val j hj hf'
  · by_cases hkk : k' = k
    · subst hkk; rw [up_ne (by omega)]; exact hf
    · rw [up_ne (by omega)] at hf' ⊢
      exact h.ord k' hk' hf'
  · rw [up_ne (by omega)] at hf'
    by_cases hkk : k' = k
    · subst hkk
      exact ⟨p, hp, hpl, by rw [up_eq]; exact hb⟩
    · obtain ⟨q, e, hq, hb'⟩ := h.arr k' hk' hf'
      refine ⟨q, e, hq, ?_⟩
      rw [up_ne (by omega)]
      have hqp : q ≠ p := fun e' => by
        subst e'
        exact h.ne k k' hk hk' (Ne.symm hkk) hf hf' (by rw [hp]; exact e.symm)
      exact (ho q hqp).trans hb'
  · rw [up_ne (by omega)] at g1 g2
    exact h.ne k1 k2 hk1 hk2 hn g1 g2
end
theorem Blk.set8 {W : World} {p : Nat} {ty : TypeId} {x0 x1 x2 x3 x4 x5 x6 x7 : Value} (y0 y1 y2 y3 y4 y5 y6 y7 : Value) (Z : Blk W p ty #[x0, x1, x2, x3, x4, x5, x6, x7]) :
    Blk ((((((((W.setCell ⟨p, 0, none⟩ y0).setCell ⟨p, 1, none⟩ y1).setCell ⟨p, 2, none⟩ y2).setCell ⟨p, 3, none⟩ y3).setCell ⟨p, 4, none⟩ y4).setCell ⟨p, 5, none⟩ y5).setCell ⟨p, 6, none⟩ y6).setCell ⟨p, 7, none⟩ y7) p ty #[y0, y1, y2, y3, y4, y5, y6, y7] := by
  have Z1 : Blk _ p ty #[y0, x1, x2, x3, x4, x5, x6, x7] := Z.set_ 0 y0
  have Z2 : Blk _ p ty #[y0, y1, x2, x3, x4, x5, x6, x7] := Z1.set_ 1 y1
  have Z3 : Blk _ p ty #[y0, y1, y2, x3, x4, x5, x6, x7] := Z2.set_ 2 y2
  have Z4 : Blk _ p ty #[y0, y1, y2, y3, x4, x5, x6, x7] := Z3.set_ 3 y3
  have Z5 : Blk _ p ty #[y0, y1, y2, y3, y4, x5, x6, x7] := Z4.set_ 4 y4
  have Z6 : Blk _ p ty #[y0, y1, y2, y3, y4, y5, x6, x7] := Z5.set_ 5 y5
  have Z7 : Blk _ p ty #[y0, y1, y2, y3, y4, y5, y6, x7] := Z6.set_ 6 y6
  have Z8 : Blk _ p ty #[y0, y1, y2, y3, y4, y5, y6, y7] := Z7.set_ 7 y7
  exact Z8
theorem far8 {W : World} {p : Nat} (y0 y1 y2 y3 y4 y5 y6 y7 : Value) (j : Nat) (hj : j ≠ p) :
    ((((((((W.setCell ⟨p, 0, none⟩ y0).setCell ⟨p, 1, none⟩ y1).setCell ⟨p, 2, none⟩ y2).setCell ⟨p, 3, none⟩ y3).setCell ⟨p, 4, none⟩ y4).setCell ⟨p, 5, none⟩ y5).setCell ⟨p, 6, none⟩ y6).setCell ⟨p, 7, none⟩ y7).heap[j]? = W.heap[j]? := by
  rw [Below.heap_setCell _ ⟨p, 7, none⟩ _ j hj, Below.heap_setCell _ ⟨p, 6, none⟩ _ j hj, Below.heap_setCell _ ⟨p, 5, none⟩ _ j hj, Below.heap_setCell _ ⟨p, 4, none⟩ _ j hj, Below.heap_setCell _ ⟨p, 3, none⟩ _ j hj, Below.heap_setCell _ ⟨p, 2, none⟩ _ j hj, Below.heap_setCell _ ⟨p, 1, none⟩ _ j hj, Below.heap_setCell _ ⟨p, 0, none⟩ _ j hj]
end Go.Proofs.YtplenagncmhhoaaDoor
