/- Slices of whole numbers and of bytes among a law's arguments, as they lie in memory. What a slice among a law's arguments has room for. Slices of structs among a law's arguments: what all of them want. A slice of a buffer's calls (structs of two numbers and a slice of bytes) among a law's arguments, as it lies in memory. A stream (a struct of chunks and two numbers) among a law's arguments, as it lies in memory. -/
import Derived.Test.YtgcbcdbfeaepkaaBt
import Derived.ProofKit
import Derived.OpenShut
import Derived.Deep.Slices
import Derived.ChangeSame
import Derived.Deep.Strs
import Derived.SizedLaws
import Derived.Test.YtgcbcdbfeaepkaaNd
import Derived.Lib.SmallJoins
namespace Go.Proofs.Ytgcbcdbfeaepkaa
open Go.RowKit Go.ChangeShapes Go.WideShapes Go.ChangeAt Go.Deep

theorem lt_of_cell {w : World} {a : Addr} {v : Value} (h : w.cell? a = some v) : a.block < w.heap.size := by
  unfold World.cell? at h
  rcases Nat.lt_or_ge a.block w.heap.size with h' | h'
  · exact h'
  · rw [Array.getElem?_eq_none h'] at h; simp at h
theorem one_of {l : List Value} (h : l.length = 1) : ∃ a, l = [a] := by
  match l, h with
  | [a], _ => exact ⟨a, rfl⟩
theorem cells_int : Try.prog.cellsOf 3 = 1 := by kernel_rfl
theorem cells_byte : Try.prog.cellsOf 5 = 1 := by kernel_rfl
theorem open_Z {H : Type} {enc : TypeId × Value → H} {w : World} {fuel : Nat} {a0 : Option Addr} {len cap : Nat} {x : DataW H × List MemPlace}
    (h : DataW.trod enc Try.prog w 0 (fun _ => true) true fuel 127 [.slice a0 len cap] = some x) : ∃ zs, IntsAt w a0 len zs ∧ len ≤ maxLen := by
  rcases open_slice Try.underlying127 h with ⟨h0, hx⟩ | ⟨a, len', cap', m, n, D, Pl, hcs, _, hl, hm, hmm, hx, hi⟩
  · simp only [List.cons.injEq, Value.slice.injEq, and_true] at h0
    obtain ⟨rfl, rfl, rfl⟩ := h0
    exact ⟨[], ⟨rfl, fun h => by omega⟩, Nat.zero_le _⟩
  · simp only [List.cons.injEq, Value.slice.injEq, and_true] at hcs
    obtain ⟨rfl, rfl, rfl⟩ := hcs
    simp only [if_true] at hmm
    subst hmm
    have hel : ∀ i, i < len → ∃ z : Int, w.cell? (a.add i) = some (.int .i64 z) := by
      intro i hlt
      obtain ⟨cs', hc, ht⟩ := hi i (by omega)
      rw [cells_int] at hc
      obtain ⟨_, hcl, hcc⟩ := World.cells?_some hc
      obtain ⟨c0, rfl⟩ := one_of hcl
      obtain ⟨x0, e0, _, w0⟩ := DataW.trod_int Try.underlying3 ht
      simp at e0
      have h0 := hcc 0 (by omega)
      rw [add_add] at h0
      rw [Nat.add_zero, Nat.mul_one] at h0
      exact ⟨x0, by rw [h0]; simp [e0]⟩
    obtain ⟨f, hf⟩ := choose_lt hel
    refine ⟨(List.range len).map f, ⟨by simp, fun hn => ?_⟩, by omega⟩
    obtain ⟨b, off, spot⟩ := a
    have hspot : spot = none := by simpa [Addr.add] using World.cell?_spot (hf 0 hn)
    subst hspot
    refine ⟨b, off, rfl, by simpa [Addr.add] using lt_of_cell (hf 0 hn), fun i r hr => ?_⟩
    have hi' : i < len := by have := (List.getElem?_eq_some_iff.1 hr).1; simpa using this
    have hr' : f i = r := by
      rw [List.getElem?_map, List.getElem?_range hi'] at hr
      simpa using hr
    have q0 := hf i hi'
    rw [hr'] at q0
    rw [Addr.add_mid] at q0
    exact q0
theorem u8_of {a : Int} (h : (Lit.int .u8 a).wf = true) : ∃ x : UInt8, Value.int .u8 a = u8V x := by
  have := bounds_u8 h
  refine ⟨UInt8.ofNat a.toNat, ?_⟩
  unfold u8V
  rw [show (((UInt8.ofNat a.toNat).toNat : Nat) : Int) = a by simp; omega]
theorem open_B {H : Type} {enc : TypeId × Value → H} {w : World} {fuel : Nat} {a0 : Option Addr} {len cap : Nat} {x : DataW H × List MemPlace}
    (h : DataW.trod enc Try.prog w 0 (fun _ => true) true fuel 52 [.slice a0 len cap] = some x) : ∃ zs, BytesAt w a0 len zs ∧ len ≤ maxLen := by
  rcases open_slice Try.underlying52 h with ⟨h0, hx⟩ | ⟨a, len', cap', m, n, D, Pl, hcs, _, hl, hm, hmm, hx, hi⟩
  · simp only [List.cons.injEq, Value.slice.injEq, and_true] at h0
    obtain ⟨rfl, rfl, rfl⟩ := h0
    exact ⟨[], ⟨rfl, fun h => by omega⟩, Nat.zero_le _⟩
  · simp only [List.cons.injEq, Value.slice.injEq, and_true] at hcs
    obtain ⟨rfl, rfl, rfl⟩ := hcs
    simp only [if_true] at hmm
    subst hmm
    have hel : ∀ i, i < len → ∃ z : UInt8, w.cell? (a.add i) = some (u8V z) := by
      intro i hlt
      obtain ⟨cs', hc, ht⟩ := hi i (by omega)
      rw [cells_byte] at hc
      obtain ⟨_, hcl, hcc⟩ := World.cells?_some hc
      obtain ⟨c0, rfl⟩ := one_of hcl
      obtain ⟨x0, e0, _, w0⟩ := DataW.trod_int Try.underlying5 ht
      simp at e0
      have h0 := hcc 0 (by omega)
      rw [add_add] at h0
      rw [Nat.add_zero, Nat.mul_one] at h0
      obtain ⟨z, hz⟩ := u8_of w0
      exact ⟨z, by rw [h0, ← hz]; simp [e0]⟩
    obtain ⟨f, hf⟩ := choose_lt hel
    refine ⟨(List.range len).map f, ⟨by simp, fun hn => ?_⟩, by omega⟩
    obtain ⟨b, off, spot⟩ := a
    have hspot : spot = none := by simpa [Addr.add] using World.cell?_spot (hf 0 hn)
    subst hspot
    refine ⟨b, off, rfl, by simpa [Addr.add] using lt_of_cell (hf 0 hn), fun i r hr => ?_⟩
    have hi' : i < len := by have := (List.getElem?_eq_some_iff.1 hr).1; simpa using this
    have hr' : f i = r := by
      rw [List.getElem?_map, List.getElem?_range hi'] at hr
      simpa using hr
    have q0 := hf i hi'
    rw [hr'] at q0
    rw [Addr.add_mid] at q0
    exact q0
/-- What a slice among the arguments reads as: nothing, or as many data as it is long. -/
theorem open_len {H : Type} {enc : TypeId × Value → H} {w : World} {t e : TypeId} {fuel : Nat} {a0 : Option Addr} {len cap : Nat} {d : DataW H} {p : List MemPlace} (ht : Try.prog.underlying t = some (.slice e))
    (h : DataW.trod enc Try.prog w 0 (fun _ => true) true fuel t [.slice a0 len cap] = some (d, p)) : len = 0 ∨ ∃ elems spare, d = .slice elems spare ∧ elems.length = len := by
  rcases open_slice ht h with ⟨h0, hx⟩ | ⟨a, len', cap', m, n, D, Pl, hcs, _, hl, hm, hmm, hx, hi⟩
  · simp only [List.cons.injEq, Value.slice.injEq, and_true] at h0
    exact .inl h0.2.1
  · simp only [List.cons.injEq, Value.slice.injEq, and_true] at hcs
    obtain ⟨rfl, rfl, rfl⟩ := hcs
    injection hx with h1 _
    exact .inr ⟨_, _, h1, by simp⟩
theorem bytes_byte : Try.prog.bytesOf 5 = 1 := by kernel_rfl
end Go.Proofs.Ytgcbcdbfeaepkaa
namespace Go.Proofs.Ytgcbcdbfeaepkaa
open Go.RowKit Go.ChangeShapes Go.WideShapes Go.ChangeAt Go.Deep

theorem open_cap {H : Type} {enc : TypeId × Value → H} {w : World} {t e : TypeId} {fuel : Nat} {a0 : Option Addr} {len cap : Nat} {x : DataW H × List MemPlace} (ht : Try.prog.underlying t = some (.slice e))
    (h : DataW.trod enc Try.prog w 0 (fun _ => true) true fuel t [.slice a0 len cap] = some x) : len ≤ cap ∧ cap ≤ maxLen := by
  rcases open_slice ht h with ⟨h0, hx⟩ | ⟨a, len', cap', m, n, D, Pl, hcs, _, hl, hm, hmm, hx, hi⟩
  · simp only [List.cons.injEq, Value.slice.injEq, and_true] at h0
    obtain ⟨rfl, rfl, rfl⟩ := h0
    exact ⟨Nat.le_refl _, Nat.zero_le _⟩
  · simp only [List.cons.injEq, Value.slice.injEq, and_true] at hcs
    obtain ⟨rfl, rfl, rfl⟩ := hcs
    exact ⟨hl, hm⟩
end Go.Proofs.Ytgcbcdbfeaepkaa
namespace Go.Proofs.Ytgcbcdbfeaepkaa
open Go.RowKit Go.ChangeShapes Go.WideShapes Go.ChangeAt Go.Deep

theorem cells_int3 : Try.prog.cellsOf 3 = 1 := by kernel_rfl
theorem cells_bytes3 : Try.prog.cellsOf 52 = 1 := by kernel_rfl
theorem three_of {l : List Value} (h : l.length = 3) : ∃ a b c, l = [a, b, c] := by
  match l, h with
  | [a, b, c], _ => exact ⟨a, b, c, rfl⟩
theorem trod_slice3 {H : Type} {enc : TypeId × Value → H} {w : World} {fuel : Nat} {c : Value} {x : DataW H × List MemPlace} (h : DataW.trod enc Try.prog w 0 (fun _ => true) true fuel 52 [c] = some x) : ∃ a l k, c = .slice a l k := by
  rcases open_slice Try.underlying52 h with ⟨h0, _⟩ | ⟨a, len, cap, _, _, _, _, hcs, _⟩
  · exact ⟨none, 0, 0, by simpa using h0⟩
  · exact ⟨some a, len, cap, by simpa using hcs⟩
theorem weights_elem {H : Type} {P : Program} {e : TypeId} {n : Nat} : ∀ {l : List (DataW H)} {d : DataW H}, d ∈ l → n ∈ d.weights P e → n ∈ DataW.weightsAll P e l
  | d0 :: r, d, hd, hn => by
    simp only [DataW.weightsAll, List.mem_append]
    rcases List.mem_cons.1 hd with rfl | hd
    · exact .inl hn
    · exact .inr (weights_elem hd hn)
  | [], _, hd, _ => by cases hd
/-- A slice of bytes that is weighed is no longer than the reach. -/
theorem weighed_bytes {H : Type} {enc : TypeId × Value → H} {w : World} {fuel : Nat} {a0 : Option Addr} {len cap : Nat} {d : DataW H} {p : List MemPlace}
    (h : DataW.trod enc Try.prog w 0 (fun _ => true) true fuel 52 [.slice a0 len cap] = some (d, p)) (hw : ∀ k ∈ d.weights Try.prog 52, k ≤ reachBytes) : len ≤ 140737488355328 := by
  rcases open_len Try.underlying52 h with h0 | ⟨el, sp, e, hl⟩
  · omega
  · subst e
    have hu := Try.underlying52
    have := hw ((el.length + sp.length) * Try.prog.bytesOf 5) (by simp [DataW.weights, hu])
    rw [bytes_byte] at this
    unfold reachBytes at this
    omega
end Go.Proofs.Ytgcbcdbfeaepkaa
namespace Go.Proofs.Ytgcbcdbfeaepkaa
open Go.RowKit Go.ChangeShapes Go.WideShapes Go.ChangeAt Go.Deep

end Go.Proofs.Ytgcbcdbfeaepkaa
namespace Go.Proofs.Ytgcbcdbfeaepkaa
open Go.RowKit Go.ChangeShapes Go.WideShapes Go.ChangeAt Go.Deep Go.Joins

theorem cells_chunk : Try.prog.cellsOf 103 = 2 := by kernel_rfl
theorem bytes_chunk : Try.prog.bytesOf 103 = 32 := by kernel_rfl
theorem two_of2 {l : List Value} (h : l.length = 2) : ∃ a b, l = [a, b] := by
  match l, h with
  | [a, b], _ => exact ⟨a, b, rfl⟩
theorem trod_slice4 {H : Type} {enc : TypeId × Value → H} {w : World} {fuel : Nat} {c : Value} {x : DataW H × List MemPlace} (h : DataW.trod enc Try.prog w 0 (fun _ => true) true fuel 91 [c] = some x) : ∃ a l k, c = .slice a l k := by
  rcases open_slice Try.underlying91 h with ⟨h0, _⟩ | ⟨a, len, cap, _, _, _, _, hcs, _⟩
  · exact ⟨none, 0, 0, by simpa using h0⟩
  · exact ⟨some a, len, cap, by simpa using hcs⟩
theorem open_chunks {H : Type} {enc : TypeId × Value → H} {w : World} {fuel : Nat} {a0 : Option Addr} {len cap : Nat} {x : DataW H × List MemPlace}
    (h : DataW.trod enc Try.prog w 0 (fun _ => true) true fuel 91 [.slice a0 len cap] = some x) (hw : ∀ k ∈ x.1.weights Try.prog 91, k ≤ reachBytes) : ∃ cks, ArgCh w a0 len cks := by
  rcases open_slice Try.underlying91 h with ⟨h0, hx⟩ | ⟨a, len', cap', m, n, D, Pl, hcs, _, hl, hm, hmm, hx, hi⟩
  · simp only [List.cons.injEq, Value.slice.injEq, and_true] at h0
    obtain ⟨rfl, rfl, rfl⟩ := h0
    exact ⟨[], ⟨rfl, by decide, fun p hp => by (cases hp), fun h => by omega⟩⟩
  · simp only [List.cons.injEq, Value.slice.injEq, and_true] at hcs
    obtain ⟨rfl, rfl, rfl⟩ := hcs
    simp only [if_true] at hmm
    subst hmm
    have hu := Try.underlying91
    have hu2 := Try.underlying103
    have hlen : len * 32 ≤ 140737488355328 := by
      have := hw (((List.range len).map D).length * 32 + (m - len) * 32) (by
        rw [hx]
        simp only [DataW.weights, hu]
        refine List.mem_cons.2 (.inl ?_)
        rw [bytes_chunk]
        simp only [List.length_map, List.length_range]
        omega)
      unfold reachBytes at this
      simp only [List.length_map, List.length_range] at this
      omega
    have hel : ∀ i, i < len → ∃ k : Ck, w.cell? (a.add (i * 2)) = some (.int .i64 k.wait) ∧ w.cell? (a.add (i * 2 + 1)) = some (.slice k.A k.m k.d) ∧ BytesAt w k.A k.m k.bs ∧ k.m ≤ 140737488355328 := by
      intro i hlt
      obtain ⟨cs', hc, ht⟩ := hi i (by omega)
      rw [cells_chunk] at hc
      obtain ⟨_, hcl, hcc⟩ := World.cells?_some hc
      obtain ⟨y0, y1, n', hD, _, t0, t1⟩ := trod_struct2 Try.underlying103 ht
      obtain ⟨c0, c1, rfl⟩ := two_of2 hcl
      rw [cells_int3] at t0
      rw [cells_bytes3] at t1
      obtain ⟨x0, e0, _, w0⟩ := DataW.trod_int Try.underlying3 t0
      have t1' : DataW.trod enc Try.prog w 0 (fun _ => true) true n' 52 [c1] = some y1 := by simpa using t1
      obtain ⟨a1, l1, k1, rfl⟩ := trod_slice3 t1'
      obtain ⟨zs, hz, _⟩ := open_B t1'
      have hD1 : D i = .agg [y0.1, y1.1] := congrArg Prod.fst hD
      have hwt : l1 ≤ 140737488355328 := weighed_bytes (d := y1.1) (p := y1.2) t1' (fun k hk => hw k (by
        rw [hx]
        simp only [DataW.weights, hu]
        refine List.mem_cons_of_mem _ (List.mem_append_left _ (weights_elem (d := D i) (List.mem_map.2 ⟨i, List.mem_range.2 hlt, rfl⟩) ?_))
        rw [hD1]
        simp only [DataW.weights, hu2, List.map_cons, List.map_nil, DataW.weightsEach, List.mem_append]
        exact .inr (.inl hk)))
      simp at e0
      have h0 := hcc 0 (by omega)
      have h1 := hcc 1 (by omega)
      rw [add_add] at h0 h1
      rw [Nat.add_zero] at h0
      exact ⟨⟨x0, a1, l1, k1, zs⟩, by rw [h0]; simp [e0], by rw [h1]; simp, hz, hwt⟩
    obtain ⟨f, hf⟩ := choose_lt hel
    refine ⟨(List.range len).map f, ⟨by simp, hlen, fun p hp => ?_, fun hn => ?_⟩⟩
    · obtain ⟨i, hi', rfl⟩ := List.mem_map.1 hp
      exact (hf i (List.mem_range.1 hi')).2.2
    · obtain ⟨b, off, spot⟩ := a
      have hspot : spot = none := by simpa [Addr.add] using World.cell?_spot (hf 0 hn).1
      subst hspot
      refine ⟨b, off, rfl, by simpa [Addr.add] using lt_of_cell (hf 0 hn).1, fun i r hr => ?_⟩
      have hi' : i < len := by have := (List.getElem?_eq_some_iff.1 hr).1; simpa using this
      have hr' : f i = r := by
        rw [List.getElem?_map, List.getElem?_range hi'] at hr
        simpa using hr
      obtain ⟨q0, q1, _⟩ := hf i hi'
      rw [hr'] at q0 q1
      rw [Addr.add_mid] at q0 q1
      exact ⟨q0, q1⟩
theorem cells_stream : Try.prog.cellsOf 93 = 3 := by kernel_rfl
set_option maxRecDepth 100000 in
theorem open_T {H : Type} {enc : TypeId × Value → H} {w : World} {r : Reach} {b0 : Nat} {v : Value} {d : DataW H} {p : List MemPlace} (hv : Value.okWide Try.prog w r b0 93 v) (h : DataW.Trod enc Try.prog w 0 (fun _ => true) true 93 v d p) (hw : ∀ n ∈ d.weights Try.prog 93, n ≤ reachBytes) :
    ∃ a len cap cks fin wait, v = .agg #[.slice a len cap, .int .i64 fin, .int .i64 wait] ∧ ArgCh w a len cks := by
  obtain ⟨v0, v1, v2, y0, y1, y2, n, rfl, rfl, rfl, t0, t1, t2⟩ := open_agg3 Try.underlying93 (by kernel_rfl) cells_stream hv h
  obtain ⟨x1, e1, _, w1⟩ := DataW.trod_int Try.underlying3 t1
  obtain ⟨x2, e2, _, w2⟩ := DataW.trod_int Try.underlying3 t2
  obtain ⟨a1, l1, k1, rfl⟩ := trod_slice4 t0
  obtain ⟨cks, hc⟩ := open_chunks t0 (fun k hk => hw k (by
    have hu := Try.underlying93
    simp only [DataW.weights, hu, List.map_cons, List.map_nil, DataW.weightsEach, List.mem_append]
    exact .inl hk))
  simp at e1 e2
  exact ⟨a1, l1, k1, cks, x1, x2, by rw [e1, e2], hc⟩
end Go.Proofs.Ytgcbcdbfeaepkaa
