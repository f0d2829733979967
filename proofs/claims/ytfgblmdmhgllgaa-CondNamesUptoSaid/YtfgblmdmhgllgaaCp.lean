/- A condition among a law's arguments asks for no more names than its bulk. -/
import Derived.Test.YtfgblmdmhgllgaaRows
import Derived.Test.YtfgblmdmhgllgaaCo
namespace Go.Proofs.Ytfgblmdmhgllgaa
open Go.RowKit Go.ChangeShapes Go.WideShapes Go.ChangeAt Go.Deep Go.Joins

theorem bulks_names {H : Type} (g : Nat → CT) : ∀ (elems : List (DataW H × List MemPlace)) (len : Nat), len = elems.length → (∀ i, i < len → (namesT (g i)).length ≤ Rows.uptoBulk (elems.getD i (.nil, [])).1) → (namesK ((List.range len).map g)).length ≤ Rows.uptoBulkAll (elems.map (·.1)) := by
  intro elems
  induction elems generalizing g with
  | nil => intro len hl _; subst hl; simp [namesK]
  | cons y ys ih =>
    intro len hl h
    subst hl
    have h0 := h 0 (by simp)
    have h1 := ih (fun i => g (i + 1)) ys.length rfl (fun i hi => by simpa using h (i + 1) (by simpa using hi))
    rw [List.length_cons, List.range_succ_eq_map, List.map_cons, List.map_map, namesK, List.length_append]
    simp only [List.map_cons, Rows.uptoBulkAll]
    have h2 : ((List.range ys.length).map (g ∘ Nat.succ)) = (List.range ys.length).map fun i => g (i + 1) := rfl
    rw [h2]
    simp only [List.getD_cons_zero] at h0
    omega
theorem open_condB {H : Type} {enc : TypeId × Value → H} {w : World} : ∀ (fuel : Nat) {cs : List Value} {x : DataW H × List MemPlace}, DataW.trod enc Try.prog w 0 (fun _ => true) true fuel 76 cs = some x → ∃ d t, CondAt w (· < w.heap.size) d t cs ∧ (namesT t).length ≤ Rows.uptoBulk x.1 := by
  intro fuel
  induction fuel using Nat.strongRecOn with
  | ind fuel ih =>
    intro cs x h
    obtain ⟨xs, n, hfu, hx, hcl, hlen, hf⟩ := DataW.trod_struct Try.underlying76 h
    rw [cells_cond] at hcl
    obtain ⟨c0, c1, c2, c3, rfl⟩ := four_of hcl
    match xs, hlen, hf with
    | [y0, y1, y2, y3], _, hf =>
      have t0 : DataW.trod enc Try.prog w 0 (fun _ => true) true n 3 [c0] = some y0 := by simpa [cells_intC] using hf 0 _ rfl
      have t1 : DataW.trod enc Try.prog w 0 (fun _ => true) true n 9 [c1] = some y1 := by simpa [cells_str] using hf 1 _ rfl
      have t2 : DataW.trod enc Try.prog w 0 (fun _ => true) true n 9 [c2] = some y2 := by simpa [cells_str] using hf 2 _ rfl
      have t3 : DataW.trod enc Try.prog w 0 (fun _ => true) true n 74 [c3] = some y3 := by simpa [cells_conds] using hf 3 _ rfl
      obtain ⟨k, e0, _, _⟩ := DataW.trod_int Try.underlying3 t0
      obtain ⟨nm, e1, _, hn⟩ := DataW.trod_string Try.underlying9 t1
      obtain ⟨vl, e2, _, hv⟩ := DataW.trod_string Try.underlying9 t2
      simp only [List.cons.injEq, and_true] at e0 e1 e2
      subst e0 e1 e2
      rcases DataW.trod_slice Try.underlying74 t3 with ⟨e3, _⟩ | ⟨a, len, cap, elems, rest, n2, hfu2, e3, hxs, _, hl, hm, hel, hc, _⟩
      · simp only [List.cons.injEq, and_true] at e3
        subst e3
        refine ⟨1, .mk k nm vl [], CondAt.of (d := 0) hn hv (Nat.zero_le _) (Nat.le_refl _) ⟨rfl, fun h0 => by omega⟩, ?_⟩
        rw [hx]
        have h1 : (namesT (.mk k nm vl [])).length ≤ 1 := by rw [namesT, namesK]; split <;> simp
        have h2 : 1 ≤ Rows.uptoBulk (DataW.agg (([y0, y1, y2, y3] : List (DataW H × List MemPlace)).map (·.1))) := by simp [Rows.uptoBulk]
        exact Nat.le_trans h1 h2
      · simp only [List.cons.injEq, and_true] at e3
        subst e3
        have hel : ∀ i, i < len → ∃ q : Nat × CT × Value × Value × Value × Value, w.cell? (a.add (i * 4)) = some q.2.2.1 ∧ w.cell? (a.add (i * 4 + 1)) = some q.2.2.2.1 ∧ w.cell? (a.add (i * 4 + 2)) = some q.2.2.2.2.1 ∧ w.cell? (a.add (i * 4 + 3)) = some q.2.2.2.2.2 ∧ CondAt w (· < w.heap.size) q.1 q.2.1 [q.2.2.1, q.2.2.2.1, q.2.2.2.2.1, q.2.2.2.2.2] ∧ (namesT q.2.1).length ≤ Rows.uptoBulk (elems.getD i (.nil, [])).1 := by
          intro i hlt
          have key := hc i hlt
          rw [List.getElem?_eq_getElem (by omega)] at key
          obtain ⟨cs', h1, h2⟩ := Option.bind_eq_some_iff.1 key
          rw [cells_cond] at h1
          obtain ⟨_, hcl', hcc⟩ := World.cells?_some h1
          obtain ⟨d, t, ht, hbk⟩ := ih n2 (by omega) h2
          obtain ⟨u0, u1, u2, u3, rfl⟩ := four_of hcl'
          have h0 := hcc 0 (by omega)
          have h1 := hcc 1 (by omega)
          have h2 := hcc 2 (by omega)
          have h3 := hcc 3 (by omega)
          rw [add_add] at h0 h1 h2 h3
          rw [Nat.add_zero] at h0
          exact ⟨(d, t, u0, u1, u2, u3), h0, h1, h2, h3, ht, by rw [List.getD_eq_getElem?_getD, List.getElem?_eq_getElem (show i < elems.length by omega)]; exact hbk⟩
        obtain ⟨f, hf'⟩ := choose_lt hel
        have hmax : ∀ m, ∃ D, ∀ i, i < m → (f i).1 ≤ D := by
          intro m
          induction m with
          | zero => exact ⟨0, fun i hi => by omega⟩
          | succ m ihm =>
            obtain ⟨D, hD⟩ := ihm
            refine ⟨max D (f m).1, fun i hi => ?_⟩
            rcases Nat.lt_or_ge i m with h' | h'
            · have := hD i h'; omega
            · obtain rfl : i = m := by omega
              omega
        obtain ⟨D, hD⟩ := hmax len
        refine ⟨D + 1, .mk k nm vl ((List.range len).map fun i => (f i).2.1), CondAt.of hn hv (by omega) hl ⟨by simp, fun hpos => ?_⟩, ?_⟩
        · obtain ⟨b, off, spot⟩ := a
          have hspot : spot = none := by simpa [Addr.add] using World.cell?_spot (hf' 0 hpos).1
          subst hspot
          refine ⟨b, off, rfl, by simpa [Addr.add] using lt_of_cell (hf' 0 hpos).1, fun i t ht => ?_⟩
          have hi' : i < len := by have := (List.getElem?_eq_some_iff.1 ht).1; simpa using this
          have ht' : (f i).2.1 = t := by
            rw [List.getElem?_map, List.getElem?_range hi'] at ht
            simpa using ht
          obtain ⟨q0, q1, q2, q3, q4, -⟩ := hf' i hi'
          rw [Addr.add_mid] at q0 q1 q2 q3
          rw [ht'] at q4
          exact ⟨_, _, _, _, q0, q1, q2, q3, q4.deeper (hD i hi')⟩
        · rw [hx]
          have h1 := bulks_names (fun i => (f i).2.1) elems len (by omega) (fun i hi => (hf' i hi).2.2.2.2.2)
          have hy3 : y3.1 = DataW.slice (elems.map (·.1)) (rest.map (·.1)) := congrArg Prod.fst hxs
          have h2 : Rows.uptoBulk (DataW.agg (([y0, y1, y2, y3] : List (DataW H × List MemPlace)).map (·.1))) = Rows.uptoBulk y0.1 + (Rows.uptoBulk y1.1 + (Rows.uptoBulk y2.1 + (Rows.uptoBulk y3.1 + 0))) + 1 := rfl
          rw [h2, hy3, Rows.uptoBulk, namesT, List.length_append]
          have h3 : (if k = 1 ∨ k = 2 then [nm] else []).length ≤ 1 := by split <;> simp
          omega
set_option maxRecDepth 100000 in
/-- A condition, by value, and its names' bound. -/
theorem open_CB {H : Type} {enc : TypeId × Value → H} {w : World} {r : Reach} {b0 : Nat} {v : Value} {d : DataW H} {p : List MemPlace} (hv : Value.okWide Try.prog w r b0 76 v) (h : DataW.Trod enc Try.prog w 0 (fun _ => true) true 76 v d p) :
    ∃ k n vl A m c D t, v = .agg #[.int .i64 k, .string n, .string vl, .slice A m c] ∧ CondAt w (· < w.heap.size) D t [.int .i64 k, .string n, .string vl, .slice A m c] ∧ (namesT t).length ≤ Rows.uptoBulk d := by
  obtain ⟨cs, rfl, _⟩ := okWide_struct Try.underlying76 hv
  obtain ⟨fuel, hf⟩ := h
  obtain ⟨D, t, ht, hbk⟩ := open_condB fuel hf
  obtain ⟨d', k, n, vl, kids, A, m, c, rfl, rfl, hcs, h'⟩ := ht.form
  have hcs' : cs = #[.int .i64 k, .string n, .string vl, .slice A m c] := by
    have : cs.toList = [.int .i64 k, .string n, .string vl, .slice A m c] := hcs
    exact Array.toList_inj.1 (by simpa using this)
  refine ⟨k, n, vl, A, m, c, d' + 1, .mk k n vl kids, by rw [hcs'], ?_, hbk⟩
  rw [hcs] at ht
  exact ht
end Go.Proofs.Ytfgblmdmhgllgaa
