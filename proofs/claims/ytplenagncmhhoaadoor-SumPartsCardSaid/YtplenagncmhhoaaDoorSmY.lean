/- A report among a law's arguments, as it lies in memory. -/
import Derived.Test.YtplenagncmhhoaaDoorSmW
import Derived.Test.YtplenagncmhhoaaDoorSmC
import Derived.ProofKit
import Derived.Deep.MidRow
import Derived.ChangeSame
import Derived.Deep.Strs
namespace Go.Proofs.YtplenagncmhhoaaDoor
open Go.RowKit Go.ChangeShapes Go.WideShapes Go.ChangeAt Go.Deep

theorem cells_resY : Tryd.prog.cellsOf 49 = 2 := by kernel_rfl
theorem cells_partY : Tryd.prog.cellsOf 46 = 2 := by kernel_rfl
theorem cells_intY : Tryd.prog.cellsOf 3 = 1 := by kernel_rfl
theorem cells_ressY : Tryd.prog.cellsOf 44 = 1 := by kernel_rfl
theorem cells_partsY : Tryd.prog.cellsOf 22 = 1 := by kernel_rfl
theorem two_ofY {l : List Value} (h : l.length = 2) : ∃ a b, l = [a, b] := by
  match l, h with
  | [a, b], _ => exact ⟨a, b, rfl⟩
theorem three_ofY {l : List Value} (h : l.length = 3) : ∃ a b c, l = [a, b, c] := by
  match l, h with
  | [a, b, c], _ => exact ⟨a, b, c, rfl⟩
theorem weights_elemY {H : Type} {P : Program} {e : TypeId} {n : Nat} : ∀ {l : List (DataW H)} {d : DataW H}, d ∈ l → n ∈ d.weights P e → n ∈ DataW.weightsAll P e l
  | d0 :: r, d, hd, hn => by
    simp only [DataW.weightsAll, List.mem_append]
    rcases List.mem_cons.1 hd with rfl | hd
    · exact .inl hn
    · exact .inr (weights_elemY hd hn)
  | [], _, hd, _ => by cases hd
/-- A slice that is weighed is no longer than the reach. -/
theorem weighedY {H : Type} {enc : TypeId × Value → H} {w : World} {fuel : Nat} {t e : TypeId} {a0 : Option Addr} {len cap : Nat} {x : DataW H × List MemPlace} (hu : Tryd.prog.underlying t = some (.slice e)) (hb : 1 ≤ Tryd.prog.bytesOf e)
    (h : DataW.trod enc Tryd.prog w 0 (fun _ => true) true fuel t [.slice a0 len cap] = some x) (hw : ∀ k ∈ x.1.weights Tryd.prog t, k ≤ reachBytes) : len ≤ 140737488355328 := by
  rcases open_slice hu h with ⟨h0, _⟩ | ⟨a, len', cap', m, n, D, Pl, hcs, _, hl, hm, hmm, hx, hi⟩
  · simp only [List.cons.injEq, Value.slice.injEq, and_true] at h0
    omega
  · simp only [List.cons.injEq, Value.slice.injEq, and_true] at hcs
    obtain ⟨rfl, rfl, rfl⟩ := hcs
    rw [hx] at hw
    have h1 := hw _ (by simp only [DataW.weights, hu]; exact List.mem_cons_self ..)
    rw [List.length_map, List.length_range] at h1
    generalize (List.map (fun j => D (len + j)) (List.range (m - len))).length = q at h1
    have h2 : len * 1 ≤ (len + q) * Tryd.prog.bytesOf e := Nat.mul_le_mul (Nat.le_add_right len q) hb
    unfold reachBytes at h1
    omega
theorem open_resY {H : Type} {enc : TypeId × Value → H} {w : World} {fuel : Nat} {a0 : Option Addr} {len cap : Nat} {x : DataW H × List MemPlace}
    (h : DataW.trod enc Tryd.prog w 0 (fun _ => true) true fuel 44 [.slice a0 len cap] = some x) (hw : ∀ k ∈ x.1.weights Tryd.prog 44, k ≤ reachBytes) : ∃ rs, ResAt w a0 len rs := by
  have hle := weighedY Tryd.underlying44 (by decide +kernel) h hw
  rcases open_slice Tryd.underlying44 h with ⟨h0, hx⟩ | ⟨a, len', cap', m, n, D, Pl, hcs, _, hl, hm, hmm, hx, hi⟩
  · simp only [List.cons.injEq, Value.slice.injEq, and_true] at h0
    obtain ⟨rfl, rfl, rfl⟩ := h0
    exact ⟨[], rfl, Nat.zero_le _, fun r hr => (by cases hr), fun h => by omega⟩
  · simp only [List.cons.injEq, Value.slice.injEq, and_true] at hcs
    obtain ⟨rfl, rfl, rfl⟩ := hcs
    simp only [if_true] at hmm
    subst hmm
    have hel : ∀ i, i < len → ∃ q : ByteArray × Int, w.cell? (a.add (i * 2)) = some (.string q.1) ∧ w.cell? (a.add (i * 2 + 1)) = some (.int .i64 q.2) ∧ q.1.size ≤ maxLen := by
      intro i hlt
      obtain ⟨cs', hc, ht⟩ := hi i (by omega)
      rw [cells_resY] at hc
      obtain ⟨_, hcl, hcc⟩ := World.cells?_some hc
      obtain ⟨y0, y1, n', _, _, t0, t1⟩ := trod_struct2 Tryd.underlying49 ht
      obtain ⟨c0, c1, rfl⟩ := two_ofY hcl
      rw [cells_str1] at t0
      rw [cells_intY] at t1
      obtain ⟨x0, e0, _, w0⟩ := DataW.trod_string Tryd.underlying9 t0
      obtain ⟨x1, e1, _, w1⟩ := DataW.trod_int Tryd.underlying3 t1
      simp at e0 e1
      have h0 := hcc 0 (by omega)
      have h1 := hcc 1 (by omega)
      rw [add_add] at h0 h1
      rw [Nat.add_zero] at h0
      exact ⟨(x0, x1), by rw [h0]; simp [e0], by rw [h1]; simp [e1], w0⟩
    obtain ⟨f, hf⟩ := choose_lt hel
    refine ⟨(List.range len).map f, by simp, hle, fun r hr => ?_, fun hn => ?_⟩
    · obtain ⟨i, hi', rfl⟩ := List.mem_map.1 hr
      exact (hf i (List.mem_range.1 hi')).2.2
    · obtain ⟨b, off, spot⟩ := a
      have hspot : spot = none := by simpa [Addr.add] using World.cell?_spot (hf 0 hn).1
      subst hspot
      refine ⟨b, off, rfl, by simpa [Addr.add] using lt_of_cell (hf 0 hn).1, fun i r hr => ?_⟩
      have hi' : i < len := by have := (List.getElem?_eq_some_iff.1 hr).1; simpa using this
      have hr' : f i = r := by
        rw [List.getElem?_map, List.getElem?_range hi'] at hr
        simpa using hr
      obtain ⟨q0, q1, _⟩ := hf i hi'
      rw [hr'] at q0 q1
      rw [Addr.add_mid] at q0 q1
      exact ⟨q0, q1⟩
theorem open_partsY {H : Type} {enc : TypeId × Value → H} {w : World} {fuel : Nat} {a0 : Option Addr} {len cap : Nat} {x : DataW H × List MemPlace}
    (h : DataW.trod enc Tryd.prog w 0 (fun _ => true) true fuel 22 [.slice a0 len cap] = some x) (hw : ∀ k ∈ x.1.weights Tryd.prog 22, k ≤ reachBytes) : ∃ ps, PartsAt w a0 len ps := by
  have hle := weighedY Tryd.underlying22 (by decide +kernel) h hw
  rcases open_slice Tryd.underlying22 h with ⟨h0, hx⟩ | ⟨a, len', cap', m, n, D, Pl, hcs, _, hl, hm, hmm, hx, hi⟩
  · simp only [List.cons.injEq, Value.slice.injEq, and_true] at h0
    obtain ⟨rfl, rfl, rfl⟩ := h0
    exact ⟨[], rfl, Nat.zero_le _, fun r hr => (by cases hr), fun h => by omega⟩
  · simp only [List.cons.injEq, Value.slice.injEq, and_true] at hcs
    obtain ⟨rfl, rfl, rfl⟩ := hcs
    simp only [if_true] at hmm
    subst hmm
    have hel : ∀ i, i < len → ∃ q : PtB × Option Addr × Nat × Nat, w.cell? (a.add (i * 2)) = some (.string q.1.1) ∧ w.cell? (a.add (i * 2 + 1)) = some (.slice q.2.1 q.2.2.1 q.2.2.2) ∧ q.1.1.size ≤ maxLen ∧ ResAt w q.2.1 q.2.2.1 q.1.2 := by
      intro i hlt
      obtain ⟨cs', hc, ht⟩ := hi i (by omega)
      rw [cells_partY] at hc
      obtain ⟨_, hcl, hcc⟩ := World.cells?_some hc
      obtain ⟨y0, y1, n', hD, _, t0, t1⟩ := trod_struct2 Tryd.underlying46 ht
      obtain ⟨c0, c1, rfl⟩ := two_ofY hcl
      rw [cells_str1] at t0
      rw [cells_ressY] at t1
      obtain ⟨x0, e0, _, w0⟩ := DataW.trod_string Tryd.underlying9 t0
      have t1' : DataW.trod enc Tryd.prog w 0 (fun _ => true) true n' 44 [c1] = some y1 := by simpa using t1
      obtain ⟨RA, rn, rc, rfl⟩ : ∃ RA rn rc, c1 = .slice RA rn rc := by
        rcases open_slice Tryd.underlying44 t1' with ⟨h0, _⟩ | ⟨a', len', cap', _, _, _, _, hcs, _⟩
        · simp only [List.cons.injEq, and_true] at h0
          exact ⟨none, 0, 0, h0⟩
        · simp only [List.cons.injEq, and_true] at hcs
          exact ⟨_, _, _, hcs⟩
      have hD1 : D i = .agg [y0.1, y1.1] := congrArg Prod.fst hD
      obtain ⟨rs, hrs⟩ := open_resY t1' (fun k hk => hw k (by
        have hu := Tryd.underlying22
        have hu2 := Tryd.underlying46
        rw [hx]
        simp only [DataW.weights, hu]
        refine List.mem_cons_of_mem _ (List.mem_append_left _ (weights_elemY (d := D i) (List.mem_map.2 ⟨i, List.mem_range.2 hlt, rfl⟩) ?_))
        rw [hD1]
        simp only [DataW.weights, hu2, List.map_cons, List.map_nil, DataW.weightsEach, List.mem_append]
        exact .inr (.inl hk)))
      simp at e0
      have h0 := hcc 0 (by omega)
      have h1 := hcc 1 (by omega)
      rw [add_add] at h0 h1
      rw [Nat.add_zero] at h0
      exact ⟨((x0, rs), RA, rn, rc), by rw [h0]; simp [e0], by rw [h1]; simp, w0, hrs⟩
    obtain ⟨f, hf⟩ := choose_lt hel
    refine ⟨(List.range len).map fun i => (f i).1, by simp, hle, fun r hr => ?_, fun hn => ?_⟩
    · obtain ⟨i, hi', rfl⟩ := List.mem_map.1 hr
      exact (hf i (List.mem_range.1 hi')).2.2.1
    · obtain ⟨b, off, spot⟩ := a
      have hspot : spot = none := by simpa [Addr.add] using World.cell?_spot (hf 0 hn).1
      subst hspot
      refine ⟨b, off, rfl, by simpa [Addr.add] using lt_of_cell (hf 0 hn).1, fun i r hr => ?_⟩
      have hi' : i < len := by have := (List.getElem?_eq_some_iff.1 hr).1; simpa using this
      have hr' : (f i).1 = r := by
        rw [List.getElem?_map, List.getElem?_range hi'] at hr
        simpa using hr
      obtain ⟨q0, q1, _, q3⟩ := hf i hi'
      rw [hr'] at q0 q3
      rw [Addr.add_mid] at q0 q1
      exact ⟨_, _, _, q0, q1, q3⟩
theorem cells_sumY : Tryd.prog.cellsOf 24 = 3 := by kernel_rfl
set_option maxRecDepth 100000 in
/-- A report, by value. -/
theorem open_sumY {H : Type} {enc : TypeId × Value → H} {w : World} {r : Reach} {b0 : Nat} {v : Value} {d : DataW H} {p : List MemPlace} (hv : Value.okWide Tryd.prog w r b0 24 v) (h : DataW.Trod enc Tryd.prog w 0 (fun _ => true) true 24 v d p) (hw : ∀ k ∈ d.weights Tryd.prog 24, k ≤ reachBytes) :
    ∃ su bo A n c ps, v = .agg #[.string su, .string bo, .slice A n c] ∧ PartsAt w A n ps ∧ su.size ≤ maxLen ∧ bo.size ≤ maxLen := by
  obtain ⟨cs, rfl, _⟩ := okWide_struct Tryd.underlying24 hv
  obtain ⟨fuel, hf⟩ := h
  have hf' : DataW.trod enc Tryd.prog w 0 (fun _ => true) true fuel 24 cs.toList = some (d, p) := hf
  obtain ⟨y0, y1, y2, n, hD, hcl, t0, t1, t2⟩ := trod_struct3 Tryd.underlying24 hf'
  have hD1 : d = .agg [y0.1, y1.1, y2.1] := congrArg Prod.fst hD
  rw [cells_sumY] at hcl
  obtain ⟨c0, c1, c2, hc⟩ := three_ofY hcl
  rw [hc] at t0 t1 t2
  rw [cells_str1] at t0 t1
  rw [cells_partsY] at t2
  obtain ⟨su, e0, _, w0⟩ := DataW.trod_string Tryd.underlying9 t0
  obtain ⟨bo, e1, _, w1⟩ := DataW.trod_string Tryd.underlying9 t1
  have t2' : DataW.trod enc Tryd.prog w 0 (fun _ => true) true n 22 [c2] = some y2 := by simpa using t2
  obtain ⟨RA, rn, rc, rfl⟩ : ∃ RA rn rc, c2 = .slice RA rn rc := by
    rcases open_slice Tryd.underlying22 t2' with ⟨h0, _⟩ | ⟨a', len', cap', _, _, _, _, hcs, _⟩
    · simp only [List.cons.injEq, and_true] at h0
      exact ⟨none, 0, 0, h0⟩
    · simp only [List.cons.injEq, and_true] at hcs
      exact ⟨_, _, _, hcs⟩
  obtain ⟨ps, hps⟩ := open_partsY t2' (fun k hk => hw k (by
    have hu2 := Tryd.underlying24
    rw [hD1]
    simp only [DataW.weights, hu2, List.map_cons, List.map_nil, DataW.weightsEach, List.mem_append]
    exact .inr (.inr (.inl hk))))
  simp at e0 e1
  refine ⟨su, bo, RA, rn, rc, ps, ?_, hps, w0, w1⟩
  have : cs = #[.string su, .string bo, .slice RA rn rc] := Array.toList_inj.1 (by rw [hc, e0, e1])
  rw [this]
end Go.Proofs.YtplenagncmhhoaaDoor
