/- A slice of slices of bytes among a law's arguments, as it lies in memory. -/
import Derived.Test.YtdhiofbimebbkaaDoorLz
namespace Go.Proofs.YtdhiofbimebbkaaDoor
open Go.RowKit Go.ChangeShapes Go.WideShapes Go.ChangeAt Go.Deep

/-- A slice of slices of bytes: each cell is a slice that reads so. -/
def PartsAt (w : World) (A : Option Addr) (n : Nat) (ps : List (Option Addr × Nat × Nat × List UInt8)) : Prop :=
  ps.length = n ∧ (∀ p ∈ ps, BytesAt w p.1 p.2.1 p.2.2.2 ∧ p.2.1 ≤ maxLen) ∧ (0 < n → ∃ b o, A = some ⟨b, o, none⟩ ∧ b < w.heap.size ∧ ∀ i p, ps[i]? = some p → w.cell? ⟨b, o + i, none⟩ = some (.slice p.1 p.2.1 p.2.2.1))
theorem cells_bs : Tryd.prog.cellsOf 30 = 1 := by kernel_rfl
theorem trod_is_slice {H : Type} {enc : TypeId × Value → H} {w : World} {fuel : Nat} {c : Value} {x : DataW H × List MemPlace} (h : DataW.trod enc Tryd.prog w 0 (fun _ => true) true fuel 30 [c] = some x) : ∃ a l k, c = .slice a l k := by
  rcases open_slice Tryd.underlying30 h with ⟨h0, _⟩ | ⟨a, len, cap, _, _, _, _, hcs, _⟩
  · exact ⟨none, 0, 0, by simpa using h0⟩
  · exact ⟨some a, len, cap, by simpa using hcs⟩
theorem open_P {H : Type} {enc : TypeId × Value → H} {w : World} {fuel : Nat} {a0 : Option Addr} {len cap : Nat} {x : DataW H × List MemPlace}
    (h : DataW.trod enc Tryd.prog w 0 (fun _ => true) true fuel 22 [.slice a0 len cap] = some x) : ∃ ps, PartsAt w a0 len ps ∧ len ≤ maxLen := by
  rcases open_slice Tryd.underlying22 h with ⟨h0, hx⟩ | ⟨a, len', cap', m, n, D, Pl, hcs, _, hl, hm, hmm, hx, hi⟩
  · simp only [List.cons.injEq, Value.slice.injEq, and_true] at h0
    obtain ⟨rfl, rfl, rfl⟩ := h0
    exact ⟨[], ⟨rfl, fun p hp => by (cases hp), fun h => by omega⟩, Nat.zero_le _⟩
  · simp only [List.cons.injEq, Value.slice.injEq, and_true] at hcs
    obtain ⟨rfl, rfl, rfl⟩ := hcs
    simp only [if_true] at hmm
    subst hmm
    have hel : ∀ i, i < len → ∃ p : Option Addr × Nat × Nat × List UInt8, w.cell? (a.add i) = some (.slice p.1 p.2.1 p.2.2.1) ∧ BytesAt w p.1 p.2.1 p.2.2.2 ∧ p.2.1 ≤ maxLen := by
      intro i hlt
      obtain ⟨cs', hc, ht⟩ := hi i (by omega)
      rw [cells_bs] at hc
      obtain ⟨_, hcl, hcc⟩ := World.cells?_some hc
      obtain ⟨c0, rfl⟩ := one_of hcl
      obtain ⟨a1, l1, k1, rfl⟩ := trod_is_slice ht
      obtain ⟨zs, hz, hzl⟩ := open_B ht
      have h0 := hcc 0 (by omega)
      rw [add_add] at h0
      rw [Nat.add_zero, Nat.mul_one] at h0
      exact ⟨(a1, l1, k1, zs), by rw [h0]; simp, hz, hzl⟩
    obtain ⟨f, hf⟩ := choose_lt hel
    refine ⟨(List.range len).map f, ⟨by simp, fun p hp => ?_, fun hn => ?_⟩, by omega⟩
    · obtain ⟨i, hi', rfl⟩ := List.mem_map.1 hp
      exact (hf i (List.mem_range.1 hi')).2
    · obtain ⟨b, off, spot⟩ := a
      have hspot : spot = none := by simpa [Addr.add] using World.cell?_spot (hf 0 hn).1
      subst hspot
      refine ⟨b, off, rfl, by simpa [Addr.add] using lt_of_cell (hf 0 hn).1, fun i r hr => ?_⟩
      have hi' : i < len := by have := (List.getElem?_eq_some_iff.1 hr).1; simpa using this
      have hr' : f i = r := by
        rw [List.getElem?_map, List.getElem?_range hi'] at hr
        simpa using hr
      have q0 := (hf i hi').1
      rw [hr'] at q0
      rw [Addr.add_mid] at q0
      exact q0
end Go.Proofs.YtdhiofbimebbkaaDoor
