/- Slices of events and of results among a law's arguments, as they lie in memory. -/
import Derived.Test.YtmhfdpgkdpbbiaaEc
import Derived.ProofKit
import Derived.OpenShut
import Derived.Deep.Slices
import Derived.Deep.MidRow
namespace Go.Proofs.Ytmhfdpgkdpbbiaa
open Go.RowKit Go.ChangeShapes Go.WideShapes Go.ChangeAt Go.Deep

theorem lt_of_cell {w : World} {a : Addr} {v : Value} (h : w.cell? a = some v) : a.block < w.heap.size := by
  unfold World.cell? at h
  rcases Nat.lt_or_ge a.block w.heap.size with h' | h'
  · exact h'
  · rw [Array.getElem?_eq_none h'] at h; simp at h
theorem cells_ev : Try.prog.cellsOf 27 = 4 := by kernel_rfl
theorem cells_res : Try.prog.cellsOf 34 = 2 := by kernel_rfl
theorem cells_int4 : Try.prog.cellsOf 3 = 1 := by kernel_rfl
theorem cells_i64 : Try.prog.cellsOf 2 = 1 := by kernel_rfl
theorem cells_str4 : Try.prog.cellsOf 9 = 1 := by kernel_rfl
theorem four_of {l : List Value} (h : l.length = 4) : ∃ a b c d, l = [a, b, c, d] := by
  match l, h with
  | [a, b, c, d], _ => exact ⟨a, b, c, d, rfl⟩
theorem two_of {l : List Value} (h : l.length = 2) : ∃ a b, l = [a, b] := by
  match l, h with
  | [a, b], _ => exact ⟨a, b, rfl⟩
theorem trod_struct4 {H : Type} {enc : TypeId × Value → H} {P : Program} {w : World} {base : Nat} {spare : Nat → Bool} {held : Bool} {t : TypeId} {f0 f1 f2 f3 : Field} {fuel : Nat} {cs : List Value} {x : DataW H × List MemPlace} (ht : P.underlying t = some (.struct #[f0, f1, f2, f3])) (h : DataW.trod enc P w base spare held fuel t cs = some x) :
    ∃ y0 y1 y2 y3 n, DataW.trod enc P w base spare held n f0.type ((cs.drop f0.offset).take (P.cellsOf f0.type)) = some y0 ∧ DataW.trod enc P w base spare held n f1.type ((cs.drop f1.offset).take (P.cellsOf f1.type)) = some y1 ∧
      DataW.trod enc P w base spare held n f2.type ((cs.drop f2.offset).take (P.cellsOf f2.type)) = some y2 ∧ DataW.trod enc P w base spare held n f3.type ((cs.drop f3.offset).take (P.cellsOf f3.type)) = some y3 := by
  obtain ⟨xs, n, _, rfl, hl, hlen, hf⟩ := DataW.trod_struct ht h
  match xs, hlen with
  | [y0, y1, y2, y3], _ => exact ⟨y0, y1, y2, y3, n, by simpa using hf 0 f0 rfl, by simpa using hf 1 f1 rfl, by simpa using hf 2 f2 rfl, by simpa using hf 3 f3 rfl⟩
theorem trod_struct2 {H : Type} {enc : TypeId × Value → H} {P : Program} {w : World} {base : Nat} {spare : Nat → Bool} {held : Bool} {t : TypeId} {f0 f1 : Field} {fuel : Nat} {cs : List Value} {x : DataW H × List MemPlace} (ht : P.underlying t = some (.struct #[f0, f1])) (h : DataW.trod enc P w base spare held fuel t cs = some x) :
    ∃ y0 y1 n, DataW.trod enc P w base spare held n f0.type ((cs.drop f0.offset).take (P.cellsOf f0.type)) = some y0 ∧ DataW.trod enc P w base spare held n f1.type ((cs.drop f1.offset).take (P.cellsOf f1.type)) = some y1 := by
  obtain ⟨xs, n, _, rfl, hl, hlen, hf⟩ := DataW.trod_struct ht h
  match xs, hlen with
  | [y0, y1], _ => exact ⟨y0, y1, n, by simpa using hf 0 f0 rfl, by simpa using hf 1 f1 rfl⟩
set_option maxRecDepth 100000 in
theorem open_E {H : Type} {enc : TypeId × Value → H} {w : World} {fuel : Nat} {a0 : Option Addr} {len cap : Nat} {x : DataW H × List MemPlace}
    (h : DataW.trod enc Try.prog w 0 (fun _ => true) true fuel 22 [.slice a0 len cap] = some x) : ∃ es, EvsAt w a0 len es ∧ len ≤ maxLen := by
  rcases open_slice Try.underlying22 h with ⟨h0, hx⟩ | ⟨a, len', cap', m, n, D, Pl, hcs, _, hl, hm, hmm, hx, hi⟩
  · simp only [List.cons.injEq, Value.slice.injEq, and_true] at h0
    obtain ⟨rfl, rfl, rfl⟩ := h0
    exact ⟨[], ⟨rfl, Nat.zero_le _, fun h => by omega⟩, Nat.zero_le _⟩
  · simp only [List.cons.injEq, Value.slice.injEq, and_true] at hcs
    obtain ⟨rfl, rfl, rfl⟩ := hcs
    simp only [if_true] at hmm
    subst hmm
    have hel : ∀ i, i < len → ∃ o : Ev, w.cell? (a.add (i * 4)) = some (.int .i64 o.kind) ∧ w.cell? (a.add (i * 4 + 1)) = some (.int .i64 o.n) ∧ w.cell? (a.add (i * 4 + 2)) = some (.string o.text) ∧ w.cell? (a.add (i * 4 + 3)) = some (.int .i64 o.at_) := by
      intro i hlt
      obtain ⟨cs', hc, ht⟩ := hi i (by omega)
      rw [cells_ev] at hc
      obtain ⟨_, hcl, hcc⟩ := World.cells?_some hc
      obtain ⟨y0, y1, y2, y3, n', t0, t1, t2, t3⟩ := trod_struct4 Try.underlying27 ht
      obtain ⟨c0, c1, c2, c3, rfl⟩ := four_of hcl
      rw [cells_int4] at t0 t1
      rw [cells_str4] at t2
      rw [cells_i64] at t3
      obtain ⟨x0, e0, _, w0⟩ := DataW.trod_int Try.underlying3 t0
      obtain ⟨x1, e1, _, w1⟩ := DataW.trod_int Try.underlying3 t1
      obtain ⟨x2, e2, g2, w2⟩ := DataW.trod_string Try.underlying9 t2
      obtain ⟨x3, e3, _, w3⟩ := DataW.trod_int Try.underlying2 t3
      simp at e0 e1 e2 e3
      have h0 := hcc 0 (by omega)
      have h1 := hcc 1 (by omega)
      have h2 := hcc 2 (by omega)
      have h3 := hcc 3 (by omega)
      rw [add_add] at h0 h1 h2 h3
      rw [Nat.add_zero] at h0
      exact ⟨⟨x0, x1, x2, x3⟩, by rw [h0]; simp [e0], by rw [h1]; simp [e1], by rw [h2]; simp [e2], by rw [h3]; simp [e3]⟩
    obtain ⟨f, hf⟩ := choose_lt hel
    refine ⟨(List.range len).map f, ⟨by simp, by unfold maxLen at hm; omega, fun hn => ?_⟩, by omega⟩
    obtain ⟨b, off, spot⟩ := a
    have hspot : spot = none := by simpa [Addr.add] using World.cell?_spot (hf 0 hn).1
    subst hspot
    refine ⟨b, off, rfl, by simpa [Addr.add] using lt_of_cell (hf 0 hn).1, fun i r hr => ?_⟩
    have hi' : i < len := by have := (List.getElem?_eq_some_iff.1 hr).1; simpa using this
    have hr' : f i = r := by
      rw [List.getElem?_map, List.getElem?_range hi'] at hr
      simpa using hr
    obtain ⟨q0, q1, q2, q3⟩ := hf i hi'
    rw [hr'] at q0 q1 q2 q3
    rw [Addr.add_mid] at q0 q1 q2 q3
    exact ⟨q0, q1, q2, q3⟩
theorem open_Y {H : Type} {enc : TypeId × Value → H} {w : World} {fuel : Nat} {a0 : Option Addr} {len cap : Nat} {x : DataW H × List MemPlace}
    (h : DataW.trod enc Try.prog w 0 (fun _ => true) true fuel 22 [.slice a0 len cap] = some x) : ∃ es, EvsAt w a0 len es ∧ len ≤ maxLen := open_E h
theorem open_len {H : Type} {enc : TypeId × Value → H} {w : World} {t e : TypeId} {fuel : Nat} {a0 : Option Addr} {len cap : Nat} {d : DataW H} {p : List MemPlace} (ht : Try.prog.underlying t = some (.slice e))
    (h : DataW.trod enc Try.prog w 0 (fun _ => true) true fuel t [.slice a0 len cap] = some (d, p)) : len = 0 ∨ ∃ elems spare, d = .slice elems spare ∧ elems.length = len := by
  rcases open_slice ht h with ⟨h0, hx⟩ | ⟨a, len', cap', m, n, D, Pl, hcs, _, hl, hm, hmm, hx, hi⟩
  · simp only [List.cons.injEq, Value.slice.injEq, and_true] at h0
    exact .inl h0.2.1
  · simp only [List.cons.injEq, Value.slice.injEq, and_true] at hcs
    obtain ⟨rfl, rfl, rfl⟩ := hcs
    injection hx with h1 _
    exact .inr ⟨_, _, h1, by simp⟩
/-- Results: their verdicts. -/
def RssAt (w : World) (A : Option Addr) (n : Nat) (vs : List Int) : Prop :=
  vs.length = n ∧ n ≤ 9223372036854775807 ∧ (0 < n → ∃ b f, A = some ⟨b, f, none⟩ ∧ b < w.heap.size ∧ ∀ i v, vs[i]? = some v → (∃ s, w.cell? ⟨b, f + i * 2, none⟩ = some (.string s)) ∧ w.cell? ⟨b, f + i * 2 + 1, none⟩ = some (.int .i64 v))
set_option maxRecDepth 100000 in
theorem open_R {H : Type} {enc : TypeId × Value → H} {w : World} {fuel : Nat} {a0 : Option Addr} {len cap : Nat} {x : DataW H × List MemPlace}
    (h : DataW.trod enc Try.prog w 0 (fun _ => true) true fuel 30 [.slice a0 len cap] = some x) : ∃ es, RssAt w a0 len es ∧ len ≤ maxLen := by
  rcases open_slice Try.underlying30 h with ⟨h0, hx⟩ | ⟨a, len', cap', m, n, D, Pl, hcs, _, hl, hm, hmm, hx, hi⟩
  · simp only [List.cons.injEq, Value.slice.injEq, and_true] at h0
    obtain ⟨rfl, rfl, rfl⟩ := h0
    exact ⟨[], ⟨rfl, Nat.zero_le _, fun h => by omega⟩, Nat.zero_le _⟩
  · simp only [List.cons.injEq, Value.slice.injEq, and_true] at hcs
    obtain ⟨rfl, rfl, rfl⟩ := hcs
    simp only [if_true] at hmm
    subst hmm
    have hel : ∀ i, i < len → ∃ o : Int, (∃ s, w.cell? (a.add (i * 2)) = some (.string s)) ∧ w.cell? (a.add (i * 2 + 1)) = some (.int .i64 o) := by
      intro i hlt
      obtain ⟨cs', hc, ht⟩ := hi i (by omega)
      rw [cells_res] at hc
      obtain ⟨_, hcl, hcc⟩ := World.cells?_some hc
      obtain ⟨y0, y1, n', t0, t1⟩ := trod_struct2 Try.underlying34 ht
      obtain ⟨c0, c1, rfl⟩ := two_of hcl
      rw [cells_str4] at t0
      rw [cells_int4] at t1
      obtain ⟨x0, e0, _, w0⟩ := DataW.trod_string Try.underlying9 t0
      obtain ⟨x1, e1, _, w1⟩ := DataW.trod_int Try.underlying3 t1
      simp at e0 e1
      have h0 := hcc 0 (by omega)
      have h1 := hcc 1 (by omega)
      rw [add_add] at h0 h1
      rw [Nat.add_zero] at h0
      exact ⟨x1, ⟨x0, by rw [h0]; simp [e0]⟩, by rw [h1]; simp [e1]⟩
    obtain ⟨f, hf⟩ := choose_lt hel
    refine ⟨(List.range len).map f, ⟨by simp, by unfold maxLen at hm; omega, fun hn => ?_⟩, by omega⟩
    obtain ⟨b, off, spot⟩ := a
    have hspot : spot = none := by simpa [Addr.add] using World.cell?_spot (hf 0 hn).1.choose_spec
    subst hspot
    refine ⟨b, off, rfl, by simpa [Addr.add] using lt_of_cell (hf 0 hn).1.choose_spec, fun i r hr => ?_⟩
    have hi' : i < len := by have := (List.getElem?_eq_some_iff.1 hr).1; simpa using this
    have hr' : f i = r := by
      rw [List.getElem?_map, List.getElem?_range hi'] at hr
      simpa using hr
    obtain ⟨⟨s, q0⟩, q1⟩ := hf i hi'
    rw [hr'] at q1
    rw [Addr.add_mid] at q0 q1
    exact ⟨⟨s, q0⟩, q1⟩
end Go.Proofs.Ytmhfdpgkdpbbiaa
