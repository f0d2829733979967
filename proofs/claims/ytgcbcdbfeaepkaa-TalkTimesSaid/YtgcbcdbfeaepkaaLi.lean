/- A slice of int64s among a law's arguments, as it lies in memory. -/
import Derived.Test.YtgcbcdbfeaepkaaLz
namespace Go.Proofs.Ytgcbcdbfeaepkaa
open Go.RowKit Go.ChangeShapes Go.WideShapes Go.ChangeAt Go.Deep

theorem cells_i64 : Try.prog.cellsOf 2 = 1 := by kernel_rfl
theorem open_L {H : Type} {enc : TypeId × Value → H} {w : World} {fuel : Nat} {a0 : Option Addr} {len cap : Nat} {x : DataW H × List MemPlace}
    (h : DataW.trod enc Try.prog w 0 (fun _ => true) true fuel 109 [.slice a0 len cap] = some x) : ∃ zs, IntsAt w a0 len zs ∧ len ≤ maxLen := by
  rcases open_slice Try.underlying109 h with ⟨h0, hx⟩ | ⟨a, len', cap', m, n, D, Pl, hcs, _, hl, hm, hmm, hx, hi⟩
  · simp only [List.cons.injEq, Value.slice.injEq, and_true] at h0
    obtain ⟨rfl, rfl, rfl⟩ := h0
    exact ⟨[], ⟨rfl, fun h => by omega⟩, Nat.zero_le _⟩
  · simp only [List.cons.injEq, Value.slice.injEq, and_true] at hcs
    obtain ⟨rfl, rfl, rfl⟩ := hcs
    simp only [if_true] at hmm
    subst hmm
    have hel : ∀ i, i < len → ∃ z : Int, w.cell? (a.add i) = some (.int .i64 z) := by
      intro i hlt
      obtain ⟨cs', hc, ht⟩ := hi i (by omega)
      rw [cells_i64] at hc
      obtain ⟨_, hcl, hcc⟩ := World.cells?_some hc
      obtain ⟨c0, rfl⟩ := one_of hcl
      obtain ⟨x0, e0, _, w0⟩ := DataW.trod_int Try.underlying2 ht
      simp at e0
      have h0 := hcc 0 (by omega)
      rw [add_add] at h0
      rw [Nat.add_zero, Nat.mul_one] at h0
      exact ⟨x0, by rw [h0]; simp [e0]⟩
    obtain ⟨f, hf⟩ := choose_lt hel
    refine ⟨(List.range len).map f, ⟨by simp, fun hn => ?_⟩, by omega⟩
    obtain ⟨b, off, spot⟩ := a
    have hspot : spot = none := by simpa [Addr.add] using World.cell?_spot (hf 0 hn)
    subst hspot
    refine ⟨b, off, rfl, by simpa [Addr.add] using lt_of_cell (hf 0 hn), fun i r hr => ?_⟩
    have hi' : i < len := by have := (List.getElem?_eq_some_iff.1 hr).1; simpa using this
    have hr' : f i = r := by
      rw [List.getElem?_map, List.getElem?_range hi'] at hr
      simpa using hr
    have q0 := hf i hi'
    rw [hr'] at q0
    rw [Addr.add_mid] at q0
    exact q0
end Go.Proofs.Ytgcbcdbfeaepkaa
