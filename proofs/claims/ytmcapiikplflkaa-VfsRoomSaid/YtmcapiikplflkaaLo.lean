/- A slice of a buffer's calls (structs of two numbers and a slice of bytes) among a law's arguments, as it lies in memory. -/
import Derived.Test.YtmcapiikplflkaaLc
import Derived.ChangeSame
import Derived.Deep.Strs
import Derived.SizedLaws
namespace Go.Proofs.Ytmcapiikplflkaa
open Go.RowKit Go.ChangeShapes Go.WideShapes Go.ChangeAt Go.Deep

structure BOp where
  kind : Int
  num : Int
  A : Option Addr
  m : Nat
  d : Nat
  bs : List UInt8
  deriving Inhabited
def BOpsAt (w : World) (A : Option Addr) (n : Nat) (os : List BOp) : Prop :=
  os.length = n ∧ (∀ o ∈ os, BytesAt w o.A o.m o.bs ∧ o.m ≤ o.d ∧ o.d ≤ maxLen ∧ o.m ≤ 140737488355328) ∧ (0 < n → ∃ b f, A = some ⟨b, f, none⟩ ∧ b < w.heap.size ∧ ∀ i o, os[i]? = some o → w.cell? ⟨b, f + i * 3, none⟩ = some (.int .i64 o.kind) ∧ w.cell? ⟨b, f + i * 3 + 1, none⟩ = some (.int .i64 o.num) ∧ w.cell? ⟨b, f + i * 3 + 2, none⟩ = some (.slice o.A o.m o.d))
theorem cells_bop : Try.prog.cellsOf 88 = 3 := by kernel_rfl
theorem cells_int3 : Try.prog.cellsOf 3 = 1 := by kernel_rfl
theorem cells_bytes3 : Try.prog.cellsOf 30 = 1 := by kernel_rfl
theorem three_of {l : List Value} (h : l.length = 3) : ∃ a b c, l = [a, b, c] := by
  match l, h with
  | [a, b, c], _ => exact ⟨a, b, c, rfl⟩
theorem trod_slice3 {H : Type} {enc : TypeId × Value → H} {w : World} {fuel : Nat} {c : Value} {x : DataW H × List MemPlace} (h : DataW.trod enc Try.prog w 0 (fun _ => true) true fuel 30 [c] = some x) : ∃ a l k, c = .slice a l k := by
  rcases open_slice Try.underlying30 h with ⟨h0, _⟩ | ⟨a, len, cap, _, _, _, _, hcs, _⟩
  · exact ⟨none, 0, 0, by simpa using h0⟩
  · exact ⟨some a, len, cap, by simpa using hcs⟩
theorem weights_elem {H : Type} {P : Program} {e : TypeId} {n : Nat} : ∀ {l : List (DataW H)} {d : DataW H}, d ∈ l → n ∈ d.weights P e → n ∈ DataW.weightsAll P e l
  | d0 :: r, d, hd, hn => by
    simp only [DataW.weightsAll, List.mem_append]
    rcases List.mem_cons.1 hd with rfl | hd
    · exact .inl hn
    · exact .inr (weights_elem hd hn)
  | [], _, hd, _ => by cases hd
/-- A slice of bytes that is weighed is no longer than the reach. -/
theorem weighed_bytes {H : Type} {enc : TypeId × Value → H} {w : World} {fuel : Nat} {a0 : Option Addr} {len cap : Nat} {d : DataW H} {p : List MemPlace}
    (h : DataW.trod enc Try.prog w 0 (fun _ => true) true fuel 30 [.slice a0 len cap] = some (d, p)) (hw : ∀ k ∈ d.weights Try.prog 30, k ≤ reachBytes) : len ≤ 140737488355328 := by
  rcases open_len Try.underlying30 h with h0 | ⟨el, sp, e, hl⟩
  · omega
  · subst e
    have hu := Try.underlying30
    have := hw ((el.length + sp.length) * Try.prog.bytesOf 5) (by simp [DataW.weights, hu])
    rw [bytes_byte] at this
    unfold reachBytes at this
    omega
theorem open_O {H : Type} {enc : TypeId × Value → H} {w : World} {fuel : Nat} {a0 : Option Addr} {len cap : Nat} {x : DataW H × List MemPlace}
    (h : DataW.trod enc Try.prog w 0 (fun _ => true) true fuel 81 [.slice a0 len cap] = some x) (hw : ∀ k ∈ x.1.weights Try.prog 81, k ≤ reachBytes) : ∃ os, BOpsAt w a0 len os ∧ len ≤ maxLen := by
  rcases open_slice Try.underlying81 h with ⟨h0, hx⟩ | ⟨a, len', cap', m, n, D, Pl, hcs, _, hl, hm, hmm, hx, hi⟩
  · simp only [List.cons.injEq, Value.slice.injEq, and_true] at h0
    obtain ⟨rfl, rfl, rfl⟩ := h0
    exact ⟨[], ⟨rfl, fun p hp => by (cases hp), fun h => by omega⟩, Nat.zero_le _⟩
  · simp only [List.cons.injEq, Value.slice.injEq, and_true] at hcs
    obtain ⟨rfl, rfl, rfl⟩ := hcs
    simp only [if_true] at hmm
    subst hmm
    have hel : ∀ i, i < len → ∃ o : BOp, w.cell? (a.add (i * 3)) = some (.int .i64 o.kind) ∧ w.cell? (a.add (i * 3 + 1)) = some (.int .i64 o.num) ∧ w.cell? (a.add (i * 3 + 2)) = some (.slice o.A o.m o.d) ∧ BytesAt w o.A o.m o.bs ∧ o.m ≤ o.d ∧ o.d ≤ maxLen ∧ o.m ≤ 140737488355328 := by
      intro i hlt
      obtain ⟨cs', hc, ht⟩ := hi i (by omega)
      rw [cells_bop] at hc
      obtain ⟨_, hcl, hcc⟩ := World.cells?_some hc
      obtain ⟨y0, y1, y2, n', hD, _, t0, t1, t2⟩ := trod_struct3 Try.underlying88 ht
      obtain ⟨c0, c1, c2, rfl⟩ := three_of hcl
      rw [cells_int3] at t0 t1
      rw [cells_bytes3] at t2
      obtain ⟨x0, e0, _, w0⟩ := DataW.trod_int Try.underlying3 t0
      obtain ⟨x1, e1, _, w1⟩ := DataW.trod_int Try.underlying3 t1
      have t2' : DataW.trod enc Try.prog w 0 (fun _ => true) true n' 30 [c2] = some y2 := by simpa using t2
      obtain ⟨a1, l1, k1, rfl⟩ := trod_slice3 t2'
      obtain ⟨zs, hz, _⟩ := open_B t2'
      have hcp := open_cap Try.underlying30 t2'
      have hD1 : D i = .agg [y0.1, y1.1, y2.1] := congrArg Prod.fst hD
      have hwt : l1 ≤ 140737488355328 := weighed_bytes (d := y2.1) (p := y2.2) t2' (fun k hk => hw k (by
        have hu := Try.underlying81
        have hu2 := Try.underlying88
        rw [hx]
        simp only [DataW.weights, hu]
        refine List.mem_cons_of_mem _ (List.mem_append_left _ (weights_elem (d := D i) (List.mem_map.2 ⟨i, List.mem_range.2 hlt, rfl⟩) ?_))
        rw [hD1]
        simp only [DataW.weights, hu2, List.map_cons, List.map_nil, DataW.weightsEach, List.mem_append]
        exact .inr (.inr (.inl hk))))
      simp at e0 e1
      have h0 := hcc 0 (by omega)
      have h1 := hcc 1 (by omega)
      have h2 := hcc 2 (by omega)
      rw [add_add] at h0 h1 h2
      rw [Nat.add_zero] at h0
      exact ⟨⟨x0, x1, a1, l1, k1, zs⟩, by rw [h0]; simp [e0], by rw [h1]; simp [e1], by rw [h2]; simp, hz, hcp.1, hcp.2, hwt⟩
    obtain ⟨f, hf⟩ := choose_lt hel
    refine ⟨(List.range len).map f, ⟨by simp, fun p hp => ?_, fun hn => ?_⟩, by omega⟩
    · obtain ⟨i, hi', rfl⟩ := List.mem_map.1 hp
      exact (hf i (List.mem_range.1 hi')).2.2.2
    · obtain ⟨b, off, spot⟩ := a
      have hspot : spot = none := by simpa [Addr.add] using World.cell?_spot (hf 0 hn).1
      subst hspot
      refine ⟨b, off, rfl, by simpa [Addr.add] using lt_of_cell (hf 0 hn).1, fun i r hr => ?_⟩
      have hi' : i < len := by have := (List.getElem?_eq_some_iff.1 hr).1; simpa using this
      have hr' : f i = r := by
        rw [List.getElem?_map, List.getElem?_range hi'] at hr
        simpa using hr
      obtain ⟨q0, q1, q2, _⟩ := hf i hi'
      rw [hr'] at q0 q1 q2
      rw [Addr.add_mid] at q0 q1 q2
      exact ⟨q0, q1, q2⟩
end Go.Proofs.Ytmcapiikplflkaa
