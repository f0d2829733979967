/- Conditions and boards among a law's arguments, as they lie in memory. -/
import Derived.Test.YtfgblmdmhgllgaaLz
import Derived.Test.YtfgblmdmhgllgaaCb
import Derived.Lib.SmallJoins
namespace Go.Proofs.Ytfgblmdmhgllgaa
open Go.RowKit Go.ChangeShapes Go.WideShapes Go.ChangeAt Go.Deep Go.Joins

theorem cells_cond : Try.prog.cellsOf 76 = 4 := by kernel_rfl
theorem cells_conds : Try.prog.cellsOf 74 = 1 := by kernel_rfl
theorem cells_str : Try.prog.cellsOf 9 = 1 := by kernel_rfl
theorem cells_intC : Try.prog.cellsOf 3 = 1 := by kernel_rfl
theorem four_of {l : List Value} (h : l.length = 4) : ∃ a b c d, l = [a, b, c, d] := by
  match l, h with
  | [a, b, c, d], _ => exact ⟨a, b, c, d, rfl⟩
theorem open_cond {H : Type} {enc : TypeId × Value → H} {w : World} : ∀ (fuel : Nat) {cs : List Value} {x : DataW H × List MemPlace}, DataW.trod enc Try.prog w 0 (fun _ => true) true fuel 76 cs = some x → ∃ d t, CondAt w (· < w.heap.size) d t cs := by
  intro fuel
  induction fuel using Nat.strongRecOn with
  | ind fuel ih =>
    intro cs x h
    obtain ⟨xs, n, hfu, hx, hcl, hlen, hf⟩ := DataW.trod_struct Try.underlying76 h
    rw [cells_cond] at hcl
    obtain ⟨c0, c1, c2, c3, rfl⟩ := four_of hcl
    match xs, hlen, hf with
    | [y0, y1, y2, y3], _, hf =>
      have t0 : DataW.trod enc Try.prog w 0 (fun _ => true) true n 3 [c0] = some y0 := by simpa [cells_intC] using hf 0 _ rfl
      have t1 : DataW.trod enc Try.prog w 0 (fun _ => true) true n 9 [c1] = some y1 := by simpa [cells_str] using hf 1 _ rfl
      have t2 : DataW.trod enc Try.prog w 0 (fun _ => true) true n 9 [c2] = some y2 := by simpa [cells_str] using hf 2 _ rfl
      have t3 : DataW.trod enc Try.prog w 0 (fun _ => true) true n 74 [c3] = some y3 := by simpa [cells_conds] using hf 3 _ rfl
      obtain ⟨k, e0, _, _⟩ := DataW.trod_int Try.underlying3 t0
      obtain ⟨nm, e1, _, hn⟩ := DataW.trod_string Try.underlying9 t1
      obtain ⟨vl, e2, _, hv⟩ := DataW.trod_string Try.underlying9 t2
      simp only [List.cons.injEq, and_true] at e0 e1 e2
      subst e0 e1 e2
      rcases DataW.trod_slice Try.underlying74 t3 with ⟨e3, _⟩ | ⟨a, len, cap, elems, rest, n2, hfu2, e3, _, _, hl, hm, hel, hc, _⟩
      · simp only [List.cons.injEq, and_true] at e3
        subst e3
        exact ⟨1, .mk k nm vl [], CondAt.of (d := 0) hn hv (Nat.zero_le _) (Nat.le_refl _) ⟨rfl, fun h0 => by omega⟩⟩
      · simp only [List.cons.injEq, and_true] at e3
        subst e3
        have hel : ∀ i, i < len → ∃ q : Nat × CT × Value × Value × Value × Value, w.cell? (a.add (i * 4)) = some q.2.2.1 ∧ w.cell? (a.add (i * 4 + 1)) = some q.2.2.2.1 ∧ w.cell? (a.add (i * 4 + 2)) = some q.2.2.2.2.1 ∧ w.cell? (a.add (i * 4 + 3)) = some q.2.2.2.2.2 ∧ CondAt w (· < w.heap.size) q.1 q.2.1 [q.2.2.1, q.2.2.2.1, q.2.2.2.2.1, q.2.2.2.2.2] := by
          intro i hlt
          have key := hc i hlt
          rw [List.getElem?_eq_getElem (by omega)] at key
          obtain ⟨cs', h1, h2⟩ := Option.bind_eq_some_iff.1 key
          rw [cells_cond] at h1
          obtain ⟨_, hcl', hcc⟩ := World.cells?_some h1
          obtain ⟨d, t, ht⟩ := ih n2 (by omega) h2
          obtain ⟨u0, u1, u2, u3, rfl⟩ := four_of hcl'
          have h0 := hcc 0 (by omega)
          have h1 := hcc 1 (by omega)
          have h2 := hcc 2 (by omega)
          have h3 := hcc 3 (by omega)
          rw [add_add] at h0 h1 h2 h3
          rw [Nat.add_zero] at h0
          exact ⟨(d, t, u0, u1, u2, u3), h0, h1, h2, h3, ht⟩
        obtain ⟨f, hf'⟩ := choose_lt hel
        have hmax : ∀ m, ∃ D, ∀ i, i < m → (f i).1 ≤ D := by
          intro m
          induction m with
          | zero => exact ⟨0, fun i hi => by omega⟩
          | succ m ihm =>
            obtain ⟨D, hD⟩ := ihm
            refine ⟨max D (f m).1, fun i hi => ?_⟩
            rcases Nat.lt_or_ge i m with h' | h'
            · have := hD i h'; omega
            · obtain rfl : i = m := by omega
              omega
        obtain ⟨D, hD⟩ := hmax len
        refine ⟨D + 1, .mk k nm vl ((List.range len).map fun i => (f i).2.1), CondAt.of hn hv (by omega) hl ⟨by simp, fun hpos => ?_⟩⟩
        obtain ⟨b, off, spot⟩ := a
        have hspot : spot = none := by simpa [Addr.add] using World.cell?_spot (hf' 0 hpos).1
        subst hspot
        refine ⟨b, off, rfl, by simpa [Addr.add] using lt_of_cell (hf' 0 hpos).1, fun i t ht => ?_⟩
        have hi' : i < len := by have := (List.getElem?_eq_some_iff.1 ht).1; simpa using this
        have ht' : (f i).2.1 = t := by
          rw [List.getElem?_map, List.getElem?_range hi'] at ht
          simpa using ht
        obtain ⟨q0, q1, q2, q3, q4⟩ := hf' i hi'
        rw [Addr.add_mid] at q0 q1 q2 q3
        rw [ht'] at q4
        exact ⟨_, _, _, _, q0, q1, q2, q3, q4.deeper (hD i hi')⟩
theorem slice_form {H : Type} {enc : TypeId × Value → H} {w : World} {fuel : Nat} {t e : TypeId} (hu : Try.prog.underlying t = some (.slice e)) {c : Value} {x : DataW H × List MemPlace} (h : DataW.trod enc Try.prog w 0 (fun _ => true) true fuel t [c] = some x) : ∃ a l k, c = .slice a l k := by
  rcases open_slice hu h with ⟨h0, _⟩ | ⟨a, len, cap, _, _, _, _, hcs, _⟩
  · exact ⟨none, 0, 0, by simpa using h0⟩
  · exact ⟨some a, len, cap, by simpa using hcs⟩
theorem open_conds {H : Type} {enc : TypeId × Value → H} {w : World} {fuel : Nat} {A : Option Addr} {len cap : Nat} {x : DataW H × List MemPlace} (h : DataW.trod enc Try.prog w 0 (fun _ => true) true fuel 74 [.slice A len cap] = some x) :
    ∃ D ts, KidsAt w (· < w.heap.size) D A len ts ∧ len ≤ maxLen ∧ len ≤ cap := by
  rcases DataW.trod_slice Try.underlying74 h with ⟨e3, _⟩ | ⟨a, len', cap', elems, rest, n2, hfu2, e3, _, _, hl, hm, hel, hc, _⟩
  · simp only [List.cons.injEq, Value.slice.injEq, and_true] at e3
    obtain ⟨rfl, rfl, rfl⟩ := e3
    exact ⟨1, [], ⟨rfl, fun h0 => by omega⟩, Nat.zero_le _, Nat.le_refl _⟩
  · simp only [List.cons.injEq, Value.slice.injEq, and_true] at e3
    obtain ⟨rfl, rfl, rfl⟩ := e3
    have hel : ∀ i, i < len → ∃ q : Nat × CT × Value × Value × Value × Value, w.cell? (a.add (i * 4)) = some q.2.2.1 ∧ w.cell? (a.add (i * 4 + 1)) = some q.2.2.2.1 ∧ w.cell? (a.add (i * 4 + 2)) = some q.2.2.2.2.1 ∧ w.cell? (a.add (i * 4 + 3)) = some q.2.2.2.2.2 ∧ CondAt w (· < w.heap.size) q.1 q.2.1 [q.2.2.1, q.2.2.2.1, q.2.2.2.2.1, q.2.2.2.2.2] := by
      intro i hlt
      have key := hc i hlt
      rw [List.getElem?_eq_getElem (by omega)] at key
      obtain ⟨cs', h1, h2⟩ := Option.bind_eq_some_iff.1 key
      rw [cells_cond] at h1
      obtain ⟨_, hcl', hcc⟩ := World.cells?_some h1
      obtain ⟨d, t, ht⟩ := open_cond n2 h2
      obtain ⟨u0, u1, u2, u3, rfl⟩ := four_of hcl'
      have h0 := hcc 0 (by omega)
      have h1 := hcc 1 (by omega)
      have h2 := hcc 2 (by omega)
      have h3 := hcc 3 (by omega)
      rw [add_add] at h0 h1 h2 h3
      rw [Nat.add_zero] at h0
      exact ⟨(d, t, u0, u1, u2, u3), h0, h1, h2, h3, ht⟩
    obtain ⟨f, hf'⟩ := choose_lt hel
    have hmax : ∀ m, ∃ D, ∀ i, i < m → (f i).1 ≤ D := by
      intro m
      induction m with
      | zero => exact ⟨0, fun i hi => by omega⟩
      | succ m ihm =>
        obtain ⟨D, hD⟩ := ihm
        refine ⟨max D (f m).1, fun i hi => ?_⟩
        rcases Nat.lt_or_ge i m with h' | h'
        · have := hD i h'; omega
        · obtain rfl : i = m := by omega
          omega
    obtain ⟨D, hD⟩ := hmax len
    refine ⟨D, (List.range len).map fun i => (f i).2.1, ⟨by simp, fun hpos => ?_⟩, by omega, hl⟩
    obtain ⟨b, off, spot⟩ := a
    have hspot : spot = none := by simpa [Addr.add] using World.cell?_spot (hf' 0 hpos).1
    subst hspot
    refine ⟨b, off, rfl, by simpa [Addr.add] using lt_of_cell (hf' 0 hpos).1, fun i t ht => ?_⟩
    have hi' : i < len := by have := (List.getElem?_eq_some_iff.1 ht).1; simpa using this
    have ht' : (f i).2.1 = t := by
      rw [List.getElem?_map, List.getElem?_range hi'] at ht
      simpa using ht
    obtain ⟨q0, q1, q2, q3, q4⟩ := hf' i hi'
    rw [Addr.add_mid] at q0 q1 q2 q3
    rw [ht'] at q4
    exact ⟨_, _, _, _, q0, q1, q2, q3, q4.deeper (hD i hi')⟩
theorem cells_prop : Try.prog.cellsOf 88 = 2 := by kernel_rfl
theorem two_ofC {l : List Value} (h : l.length = 2) : ∃ a b, l = [a, b] := by
  match l, h with
  | [a, b], _ => exact ⟨a, b, rfl⟩
theorem open_props {H : Type} {enc : TypeId × Value → H} {w : World} {fuel : Nat} {A : Option Addr} {len cap : Nat} {x : DataW H × List MemPlace} (h : DataW.trod enc Try.prog w 0 (fun _ => true) true fuel 77 [.slice A len cap] = some x) :
    ∃ ps, PropsAt w (· < w.heap.size) A len ps ∧ len ≤ maxLen ∧ len ≤ cap := by
  rcases open_slice Try.underlying77 h with ⟨h0, hx⟩ | ⟨a, len', cap', m, n, D, Pl, hcs, _, hl, hm, hmm, hx, hi⟩
  · simp only [List.cons.injEq, Value.slice.injEq, and_true] at h0
    obtain ⟨rfl, rfl, rfl⟩ := h0
    exact ⟨[], ⟨rfl, fun p hp => (by cases hp), fun h => by omega⟩, Nat.zero_le _, Nat.le_refl _⟩
  · simp only [List.cons.injEq, Value.slice.injEq, and_true] at hcs
    obtain ⟨rfl, rfl, rfl⟩ := hcs
    simp only [if_true] at hmm
    subst hmm
    have hel : ∀ i, i < len → ∃ q : ByteArray × ByteArray, w.cell? (a.add (i * 2)) = some (.string q.1) ∧ w.cell? (a.add (i * 2 + 1)) = some (.string q.2) ∧ q.1.size ≤ maxLen ∧ q.2.size ≤ maxLen := by
      intro i hlt
      obtain ⟨cs', hc, ht⟩ := hi i (by omega)
      rw [cells_prop] at hc
      obtain ⟨_, hcl, hcc⟩ := World.cells?_some hc
      obtain ⟨y0, y1, n', _, _, t0, t1⟩ := trod_struct2 Try.underlying88 ht
      obtain ⟨c0, c1, rfl⟩ := two_ofC hcl
      rw [cells_str] at t0 t1
      obtain ⟨nm, e1, _, hn⟩ := DataW.trod_string Try.underlying9 t0
      obtain ⟨vl, e2, _, hv⟩ := DataW.trod_string Try.underlying9 t1
      simp at e1 e2
      have h0 := hcc 0 (by omega)
      have h1 := hcc 1 (by omega)
      rw [add_add] at h0 h1
      rw [Nat.add_zero] at h0
      exact ⟨(nm, vl), by rw [h0]; simp [e1], by rw [h1]; simp [e2], hn, hv⟩
    obtain ⟨f, hf⟩ := choose_lt hel
    refine ⟨(List.range len).map f, ⟨by simp, fun p hp => ?_, fun hn => ?_⟩, by omega, hl⟩
    · obtain ⟨i, hi', rfl⟩ := List.mem_map.1 hp
      exact (hf i (List.mem_range.1 hi')).2.2
    · obtain ⟨b, off, spot⟩ := a
      have hspot : spot = none := by simpa [Addr.add] using World.cell?_spot (hf 0 hn).1
      subst hspot
      refine ⟨b, off, rfl, by simpa [Addr.add] using lt_of_cell (hf 0 hn).1, fun i r hr => ?_⟩
      have hi' : i < len := by have := (List.getElem?_eq_some_iff.1 hr).1; simpa using this
      have hr' : f i = r := by
        rw [List.getElem?_map, List.getElem?_range hi'] at hr
        simpa using hr
      obtain ⟨q0, q1, _⟩ := hf i hi'
      rw [hr'] at q0 q1
      rw [Addr.add_mid] at q0 q1
      exact ⟨q0, q1⟩
set_option maxRecDepth 100000 in
/-- A condition, by value. -/
theorem open_C {H : Type} {enc : TypeId × Value → H} {w : World} {r : Reach} {b0 : Nat} {v : Value} {d : DataW H} {p : List MemPlace} (hv : Value.okWide Try.prog w r b0 76 v) (h : DataW.Trod enc Try.prog w 0 (fun _ => true) true 76 v d p) :
    ∃ k n vl A m c D t, v = .agg #[.int .i64 k, .string n, .string vl, .slice A m c] ∧ CondAt w (· < w.heap.size) D t [.int .i64 k, .string n, .string vl, .slice A m c] := by
  obtain ⟨cs, rfl, _⟩ := okWide_struct Try.underlying76 hv
  obtain ⟨fuel, hf⟩ := h
  obtain ⟨D, t, ht⟩ := open_cond fuel hf
  obtain ⟨d, k, n, vl, kids, A, m, c, rfl, rfl, hcs, h'⟩ := ht.form
  have hcs' : cs = #[.int .i64 k, .string n, .string vl, .slice A m c] := by
    have : cs.toList = [.int .i64 k, .string n, .string vl, .slice A m c] := hcs
    exact Array.toList_inj.1 (by simpa using this)
  refine ⟨k, n, vl, A, m, c, d + 1, .mk k n vl kids, by rw [hcs'], ?_⟩
  rw [hcs] at ht
  exact ht
set_option maxRecDepth 100000 in
/-- A board, by value. -/
theorem open_D {H : Type} {enc : TypeId × Value → H} {w : World} {r : Reach} {b0 : Nat} {v : Value} {d : DataW H} {p : List MemPlace} (hv : Value.okWide Try.prog w r b0 79 v) (h : DataW.Trod enc Try.prog w 0 (fun _ => true) true 79 v d p) :
    ∃ nm A m c ps, v = .agg #[.string nm, .slice A m c] ∧ PropsAt w (· < w.heap.size) A m ps ∧ m ≤ maxLen ∧ m ≤ c := by
  obtain ⟨v0, v1, y0, y1, n, rfl, rfl, rfl, t0, t1⟩ := open_agg2 Try.underlying79 (by kernel_rfl) (by kernel_rfl) hv h
  obtain ⟨nm, e1, _, _⟩ := DataW.trod_string Try.underlying9 t0
  obtain ⟨A, m, c, rfl⟩ := slice_form Try.underlying77 t1
  obtain ⟨ps, hp, hm, hc⟩ := open_props t1
  simp at e1
  exact ⟨nm, A, m, c, ps, by rw [e1], hp, hm, hc⟩
end Go.Proofs.Ytfgblmdmhgllgaa
