/- A stream (a struct of chunks and two numbers) among a law's arguments, as it lies in memory. -/
import Derived.Test.YtmcapiikplflkaaLo
import Derived.Test.YtmcapiikplflkaaNd
import Derived.Lib.SmallJoins
namespace Go.Proofs.Ytmcapiikplflkaa
open Go.RowKit Go.ChangeShapes Go.WideShapes Go.ChangeAt Go.Deep Go.Joins

theorem cells_chunk : Try.prog.cellsOf 72 = 2 := by kernel_rfl
theorem bytes_chunk : Try.prog.bytesOf 72 = 32 := by kernel_rfl
theorem two_of2 {l : List Value} (h : l.length = 2) : ∃ a b, l = [a, b] := by
  match l, h with
  | [a, b], _ => exact ⟨a, b, rfl⟩
theorem trod_slice4 {H : Type} {enc : TypeId × Value → H} {w : World} {fuel : Nat} {c : Value} {x : DataW H × List MemPlace} (h : DataW.trod enc Try.prog w 0 (fun _ => true) true fuel 66 [c] = some x) : ∃ a l k, c = .slice a l k := by
  rcases open_slice Try.underlying66 h with ⟨h0, _⟩ | ⟨a, len, cap, _, _, _, _, hcs, _⟩
  · exact ⟨none, 0, 0, by simpa using h0⟩
  · exact ⟨some a, len, cap, by simpa using hcs⟩
theorem open_chunks {H : Type} {enc : TypeId × Value → H} {w : World} {fuel : Nat} {a0 : Option Addr} {len cap : Nat} {x : DataW H × List MemPlace}
    (h : DataW.trod enc Try.prog w 0 (fun _ => true) true fuel 66 [.slice a0 len cap] = some x) (hw : ∀ k ∈ x.1.weights Try.prog 66, k ≤ reachBytes) : ∃ cks, ArgCh w a0 len cks := by
  rcases open_slice Try.underlying66 h with ⟨h0, hx⟩ | ⟨a, len', cap', m, n, D, Pl, hcs, _, hl, hm, hmm, hx, hi⟩
  · simp only [List.cons.injEq, Value.slice.injEq, and_true] at h0
    obtain ⟨rfl, rfl, rfl⟩ := h0
    exact ⟨[], ⟨rfl, by decide, fun p hp => by (cases hp), fun h => by omega⟩⟩
  · simp only [List.cons.injEq, Value.slice.injEq, and_true] at hcs
    obtain ⟨rfl, rfl, rfl⟩ := hcs
    simp only [if_true] at hmm
    subst hmm
    have hu := Try.underlying66
    have hu2 := Try.underlying72
    have hlen : len * 32 ≤ 140737488355328 := by
      have := hw (((List.range len).map D).length * 32 + (m - len) * 32) (by
        rw [hx]
        simp only [DataW.weights, hu]
        refine List.mem_cons.2 (.inl ?_)
        rw [bytes_chunk]
        simp only [List.length_map, List.length_range]
        omega)
      unfold reachBytes at this
      simp only [List.length_map, List.length_range] at this
      omega
    have hel : ∀ i, i < len → ∃ k : Ck, w.cell? (a.add (i * 2)) = some (.int .i64 k.wait) ∧ w.cell? (a.add (i * 2 + 1)) = some (.slice k.A k.m k.d) ∧ BytesAt w k.A k.m k.bs ∧ k.m ≤ 140737488355328 := by
      intro i hlt
      obtain ⟨cs', hc, ht⟩ := hi i (by omega)
      rw [cells_chunk] at hc
      obtain ⟨_, hcl, hcc⟩ := World.cells?_some hc
      obtain ⟨y0, y1, n', hD, _, t0, t1⟩ := trod_struct2 Try.underlying72 ht
      obtain ⟨c0, c1, rfl⟩ := two_of2 hcl
      rw [cells_int3] at t0
      rw [cells_bytes3] at t1
      obtain ⟨x0, e0, _, w0⟩ := DataW.trod_int Try.underlying3 t0
      have t1' : DataW.trod enc Try.prog w 0 (fun _ => true) true n' 30 [c1] = some y1 := by simpa using t1
      obtain ⟨a1, l1, k1, rfl⟩ := trod_slice3 t1'
      obtain ⟨zs, hz, _⟩ := open_B t1'
      have hD1 : D i = .agg [y0.1, y1.1] := congrArg Prod.fst hD
      have hwt : l1 ≤ 140737488355328 := weighed_bytes (d := y1.1) (p := y1.2) t1' (fun k hk => hw k (by
        rw [hx]
        simp only [DataW.weights, hu]
        refine List.mem_cons_of_mem _ (List.mem_append_left _ (weights_elem (d := D i) (List.mem_map.2 ⟨i, List.mem_range.2 hlt, rfl⟩) ?_))
        rw [hD1]
        simp only [DataW.weights, hu2, List.map_cons, List.map_nil, DataW.weightsEach, List.mem_append]
        exact .inr (.inl hk)))
      simp at e0
      have h0 := hcc 0 (by omega)
      have h1 := hcc 1 (by omega)
      rw [add_add] at h0 h1
      rw [Nat.add_zero] at h0
      exact ⟨⟨x0, a1, l1, k1, zs⟩, by rw [h0]; simp [e0], by rw [h1]; simp, hz, hwt⟩
    obtain ⟨f, hf⟩ := choose_lt hel
    refine ⟨(List.range len).map f, ⟨by simp, hlen, fun p hp => ?_, fun hn => ?_⟩⟩
    · obtain ⟨i, hi', rfl⟩ := List.mem_map.1 hp
      exact (hf i (List.mem_range.1 hi')).2.2
    · obtain ⟨b, off, spot⟩ := a
      have hspot : spot = none := by simpa [Addr.add] using World.cell?_spot (hf 0 hn).1
      subst hspot
      refine ⟨b, off, rfl, by simpa [Addr.add] using lt_of_cell (hf 0 hn).1, fun i r hr => ?_⟩
      have hi' : i < len := by have := (List.getElem?_eq_some_iff.1 hr).1; simpa using this
      have hr' : f i = r := by
        rw [List.getElem?_map, List.getElem?_range hi'] at hr
        simpa using hr
      obtain ⟨q0, q1, _⟩ := hf i hi'
      rw [hr'] at q0 q1
      rw [Addr.add_mid] at q0 q1
      exact ⟨q0, q1⟩
theorem cells_stream : Try.prog.cellsOf 68 = 3 := by kernel_rfl
set_option maxRecDepth 100000 in
theorem open_T {H : Type} {enc : TypeId × Value → H} {w : World} {r : Reach} {b0 : Nat} {v : Value} {d : DataW H} {p : List MemPlace} (hv : Value.okWide Try.prog w r b0 68 v) (h : DataW.Trod enc Try.prog w 0 (fun _ => true) true 68 v d p) (hw : ∀ n ∈ d.weights Try.prog 68, n ≤ reachBytes) :
    ∃ a len cap cks fin wait, v = .agg #[.slice a len cap, .int .i64 fin, .int .i64 wait] ∧ ArgCh w a len cks := by
  obtain ⟨v0, v1, v2, y0, y1, y2, n, rfl, rfl, rfl, t0, t1, t2⟩ := open_agg3 Try.underlying68 (by kernel_rfl) cells_stream hv h
  obtain ⟨x1, e1, _, w1⟩ := DataW.trod_int Try.underlying3 t1
  obtain ⟨x2, e2, _, w2⟩ := DataW.trod_int Try.underlying3 t2
  obtain ⟨a1, l1, k1, rfl⟩ := trod_slice4 t0
  obtain ⟨cks, hc⟩ := open_chunks t0 (fun k hk => hw k (by
    have hu := Try.underlying68
    simp only [DataW.weights, hu, List.map_cons, List.map_nil, DataW.weightsEach, List.mem_append]
    exact .inl hk))
  simp at e1 e2
  exact ⟨a1, l1, k1, cks, x1, x2, by rw [e1, e2], hc⟩
end Go.Proofs.Ytmcapiikplflkaa
