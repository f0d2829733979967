/- A slice of a disk's calls (structs of six fields) among a law's arguments, as it lies in memory. -/
import Derived.Test.YteokiaeojgjpdaaLh
namespace Go.Proofs.Yteokiaeojgjpdaa
open Go.RowKit Go.ChangeShapes Go.WideShapes Go.ChangeAt Go.Deep

structure VOp where
  kind : Int
  a : ByteArray
  z : ByteArray
  num : Int
  A : Option Addr
  m : Nat
  d : Nat
  bs : List UInt8
  K : Option Addr
  kn : Nat
  kc : Nat
  ks : List Int
  deriving Inhabited
def VOpsAt (w : World) (A : Option Addr) (n : Nat) (os : List VOp) : Prop :=
  os.length = n ∧ (∀ o ∈ os, o.a.size ≤ maxLen ∧ o.z.size ≤ maxLen ∧ BytesAt w o.A o.m o.bs ∧ o.m ≤ 140737488355328 ∧ IntsAt w o.K o.kn o.ks ∧ o.kn ≤ maxLen ∧ o.num ≤ 9223372036854775807) ∧ (0 < n → ∃ b f, A = some ⟨b, f, none⟩ ∧ b < w.heap.size ∧ ∀ i o, os[i]? = some o → w.cell? ⟨b, f + i * 6, none⟩ = some (.int .i64 o.kind) ∧ w.cell? ⟨b, f + i * 6 + 1, none⟩ = some (.string o.a) ∧ w.cell? ⟨b, f + i * 6 + 2, none⟩ = some (.string o.z) ∧ w.cell? ⟨b, f + i * 6 + 3, none⟩ = some (.int .i64 o.num) ∧ w.cell? ⟨b, f + i * 6 + 4, none⟩ = some (.slice o.A o.m o.d) ∧ w.cell? ⟨b, f + i * 6 + 5, none⟩ = some (.slice o.K o.kn o.kc))
theorem cells_vop : Try.prog.cellsOf 57 = 6 := by kernel_rfl
theorem cells_str6 : Try.prog.cellsOf 9 = 1 := by kernel_rfl
theorem cells_ints6 : Try.prog.cellsOf 55 = 1 := by kernel_rfl
theorem six_of {l : List Value} (h : l.length = 6) : ∃ a b c d e f, l = [a, b, c, d, e, f] := by
  match l, h with
  | [a, b, c, d, e, f], _ => exact ⟨a, b, c, d, e, f, rfl⟩
theorem trod_ints6 {H : Type} {enc : TypeId × Value → H} {w : World} {fuel : Nat} {c : Value} {x : DataW H × List MemPlace} (h : DataW.trod enc Try.prog w 0 (fun _ => true) true fuel 55 [c] = some x) : ∃ a l k, c = .slice a l k := by
  rcases open_slice Try.underlying55 h with ⟨h0, _⟩ | ⟨a, len, cap, _, _, _, _, hcs, _⟩
  · exact ⟨none, 0, 0, by simpa using h0⟩
  · exact ⟨some a, len, cap, by simpa using hcs⟩
theorem trod_struct6 {H : Type} {enc : TypeId × Value → H} {P : Program} {w : World} {base : Nat} {spare : Nat → Bool} {held : Bool} {t : TypeId} {f0 f1 f2 f3 f4 f5 : Field} {fuel : Nat} {cs : List Value} {x : DataW H × List MemPlace} (ht : P.underlying t = some (.struct #[f0, f1, f2, f3, f4, f5])) (h : DataW.trod enc P w base spare held fuel t cs = some x) :
    ∃ y0 y1 y2 y3 y4 y5 n, x.1 = .agg [y0.1, y1.1, y2.1, y3.1, y4.1, y5.1] ∧ DataW.trod enc P w base spare held n f0.type ((cs.drop f0.offset).take (P.cellsOf f0.type)) = some y0 ∧ DataW.trod enc P w base spare held n f1.type ((cs.drop f1.offset).take (P.cellsOf f1.type)) = some y1 ∧
      DataW.trod enc P w base spare held n f2.type ((cs.drop f2.offset).take (P.cellsOf f2.type)) = some y2 ∧ DataW.trod enc P w base spare held n f3.type ((cs.drop f3.offset).take (P.cellsOf f3.type)) = some y3 ∧ DataW.trod enc P w base spare held n f4.type ((cs.drop f4.offset).take (P.cellsOf f4.type)) = some y4 ∧ DataW.trod enc P w base spare held n f5.type ((cs.drop f5.offset).take (P.cellsOf f5.type)) = some y5 := by
  obtain ⟨xs, n, _, rfl, hl, hlen, hf⟩ := DataW.trod_struct ht h
  match xs, hlen with
  | [y0, y1, y2, y3, y4, y5], _ => exact ⟨y0, y1, y2, y3, y4, y5, n, by simp, by simpa using hf 0 f0 rfl, by simpa using hf 1 f1 rfl, by simpa using hf 2 f2 rfl, by simpa using hf 3 f3 rfl, by simpa using hf 4 f4 rfl, by simpa using hf 5 f5 rfl⟩
set_option maxRecDepth 100000 in
theorem open_V {H : Type} {enc : TypeId × Value → H} {w : World} {fuel : Nat} {a0 : Option Addr} {len cap : Nat} {x : DataW H × List MemPlace}
    (h : DataW.trod enc Try.prog w 0 (fun _ => true) true fuel 48 [.slice a0 len cap] = some x) (hw : ∀ k ∈ x.1.weights Try.prog 48, k ≤ reachBytes) : ∃ os, VOpsAt w a0 len os ∧ len ≤ maxLen := by
  rcases open_slice Try.underlying48 h with ⟨h0, hx⟩ | ⟨a, len', cap', m, n, D, Pl, hcs, _, hl, hm, hmm, hx, hi⟩
  · simp only [List.cons.injEq, Value.slice.injEq, and_true] at h0
    obtain ⟨rfl, rfl, rfl⟩ := h0
    exact ⟨[], ⟨rfl, fun p hp => by (cases hp), fun h => by omega⟩, Nat.zero_le _⟩
  · simp only [List.cons.injEq, Value.slice.injEq, and_true] at hcs
    obtain ⟨rfl, rfl, rfl⟩ := hcs
    simp only [if_true] at hmm
    subst hmm
    have hu := Try.underlying48
    have hu2 := Try.underlying57
    have hel : ∀ i, i < len → ∃ o : VOp, (w.cell? (a.add (i * 6)) = some (.int .i64 o.kind) ∧ w.cell? (a.add (i * 6 + 1)) = some (.string o.a) ∧ w.cell? (a.add (i * 6 + 2)) = some (.string o.z) ∧ w.cell? (a.add (i * 6 + 3)) = some (.int .i64 o.num) ∧ w.cell? (a.add (i * 6 + 4)) = some (.slice o.A o.m o.d) ∧ w.cell? (a.add (i * 6 + 5)) = some (.slice o.K o.kn o.kc)) ∧ o.a.size ≤ maxLen ∧ o.z.size ≤ maxLen ∧ BytesAt w o.A o.m o.bs ∧ o.m ≤ 140737488355328 ∧ IntsAt w o.K o.kn o.ks ∧ o.kn ≤ maxLen ∧ o.num ≤ 9223372036854775807 := by
      intro i hlt
      obtain ⟨cs', hc, ht⟩ := hi i (by omega)
      rw [cells_vop] at hc
      obtain ⟨_, hcl, hcc⟩ := World.cells?_some hc
      obtain ⟨y0, y1, y2, y3, y4, y5, n', hD1, t0, t1, t2, t3, t4, t5⟩ := trod_struct6 Try.underlying57 ht
      obtain ⟨c0, c1, c2, c3, c4, c5, rfl⟩ := six_of hcl
      rw [cells_int3] at t0 t3
      rw [cells_str6] at t1 t2
      rw [cells_bytes3] at t4
      rw [cells_ints6] at t5
      obtain ⟨x0, e0, _, w0⟩ := DataW.trod_int Try.underlying3 t0
      obtain ⟨x1, e1, g1, w1⟩ := DataW.trod_string Try.underlying9 t1
      obtain ⟨x2, e2, g2, w2⟩ := DataW.trod_string Try.underlying9 t2
      obtain ⟨x3, e3, _, w3⟩ := DataW.trod_int Try.underlying3 t3
      have t4' : DataW.trod enc Try.prog w 0 (fun _ => true) true n' 44 [c4] = some y4 := by simpa using t4
      obtain ⟨a4, l4, k4, rfl⟩ := trod_slice3 t4'
      obtain ⟨zs, hz, _⟩ := open_B t4'
      have t5' : DataW.trod enc Try.prog w 0 (fun _ => true) true n' 55 [c5] = some y5 := by simpa using t5
      obtain ⟨a5, l5, k5, rfl⟩ := trod_ints6 t5'
      obtain ⟨ks, hks, hkn⟩ := open_Z t5'
      have hwt : l4 ≤ 140737488355328 := weighed_bytes (d := y4.1) (p := y4.2) t4' (fun k hk => hw k (by
        rw [hx]
        simp only [DataW.weights, hu]
        refine List.mem_cons_of_mem _ (List.mem_append_left _ (weights_elem (d := D i) (List.mem_map.2 ⟨i, List.mem_range.2 hlt, rfl⟩) ?_))
        rw [show D i = _ from hD1]
        simp only [DataW.weights, hu2, List.map_cons, List.map_nil, DataW.weightsEach, List.mem_append]
        exact .inr (.inr (.inr (.inr (.inl hk))))))
      simp at e0 e1 e2 e3
      have h0 := hcc 0 (by omega)
      have h1 := hcc 1 (by omega)
      have h2 := hcc 2 (by omega)
      have h3 := hcc 3 (by omega)
      have h4 := hcc 4 (by omega)
      have h5 := hcc 5 (by omega)
      rw [add_add] at h0 h1 h2 h3 h4 h5
      rw [Nat.add_zero] at h0
      exact ⟨⟨x0, x1, x2, x3, a4, l4, k4, zs, a5, l5, k5, ks⟩, ⟨by rw [h0]; simp [e0], by rw [h1]; simp [e1], by rw [h2]; simp [e2], by rw [h3]; simp [e3], by rw [h4]; simp, by rw [h5]; simp⟩, w1, w2, hz, hwt, hks, hkn, by
        have h := w3
        simp only [Lit.wf, Bool.and_eq_true, decide_eq_true_eq] at h
        exact Int.le_trans h.2 (by decide)⟩
    obtain ⟨f, hf⟩ := choose_lt hel
    refine ⟨(List.range len).map f, ⟨by simp, fun p hp => ?_, fun hn => ?_⟩, by omega⟩
    · obtain ⟨i, hi', rfl⟩ := List.mem_map.1 hp
      exact (hf i (List.mem_range.1 hi')).2
    · obtain ⟨b, off, spot⟩ := a
      have hspot : spot = none := by simpa [Addr.add] using World.cell?_spot (hf 0 hn).1.1
      subst hspot
      refine ⟨b, off, rfl, by simpa [Addr.add] using lt_of_cell (hf 0 hn).1.1, fun i r hr => ?_⟩
      have hi' : i < len := by have := (List.getElem?_eq_some_iff.1 hr).1; simpa using this
      have hr' : f i = r := by
        rw [List.getElem?_map, List.getElem?_range hi'] at hr
        simpa using hr
      obtain ⟨⟨q0, q1, q2, q3, q4, q5⟩, _⟩ := hf i hi'
      rw [hr'] at q0 q1 q2 q3 q4 q5
      rw [Addr.add_mid] at q0 q1 q2 q3 q4 q5
      exact ⟨q0, q1, q2, q3, q4, q5⟩
end Go.Proofs.Yteokiaeojgjpdaa
