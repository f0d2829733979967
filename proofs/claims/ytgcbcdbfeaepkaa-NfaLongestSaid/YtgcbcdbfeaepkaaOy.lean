/- A tree among a law's arguments, as it lies in memory. -/
import Derived.Test.YtgcbcdbfeaepkaaOv
import Derived.ProofKit
import Derived.OpenShut
import Derived.Deep.Slices
import Derived.SizedLaws
import Derived.Carry
import Derived.Lib.SmallJoins
namespace Go.Proofs.Ytgcbcdbfeaepkaa
open Go.RowKit Go.ChangeShapes Go.WideShapes Go.ChangeAt Go.Deep Go.Joins

theorem lt_of_cellN {w : World} {a : Addr} {v : Value} (h : w.cell? a = some v) : a.block < w.heap.size := by
  unfold World.cell? at h
  rcases Nat.lt_or_ge a.block w.heap.size with h' | h'
  · exact h'
  · rw [Array.getElem?_eq_none h'] at h; simp at h
theorem byte_ofN {n : Int} (h : (Lit.int .u8 n).wf = true) : ∃ b : UInt8, n = b.toNat := by
  have := bounds_u8 h
  exact ⟨UInt8.ofNat n.toNat, by simp; omega⟩
theorem two_ofN {l : List Value} (h : l.length = 2) : ∃ a b, l = [a, b] := by
  match l, h with
  | [a, b], _ => exact ⟨a, b, rfl⟩
theorem cells2N : Try.prog.cellsOf 168 = 2 := by kernel_rfl
theorem cells1N : Try.prog.cellsOf 5 = 1 := by kernel_rfl
theorem open_rgs {H : Type} {enc : TypeId × Value → H} {w : World} {fuel : Nat} {a0 : Option Addr} {len cap : Nat} {x : DataW H × List MemPlace}
    (h : DataW.trod enc Try.prog w 0 (fun _ => true) true fuel 22 [.slice a0 len cap] = some x) :
    ∃ rs, RgAt w (· < w.heap.size) a0 len rs ∧ len ≤ maxLen ∧ (a0 = none → cap = 0) ∧ (a0 = none → len = 0) ∧ (∀ ad, a0 = some ad → ∃ es sp, x.1 = .slice es sp ∧ es.length = len) := by
  rcases open_slice Try.underlying22 h with ⟨h0, hx⟩ | ⟨a, len', cap', m, n, D, Pl, hcs, _, hl, hm, hmm, hx, hi⟩
  · simp only [List.cons.injEq, Value.slice.injEq, and_true] at h0
    obtain ⟨rfl, rfl, rfl⟩ := h0
    exact ⟨[], RgAt.nil _ _ _, Nat.zero_le _, fun _ => rfl, fun _ => rfl, fun ad h => by cases h⟩
  · simp only [List.cons.injEq, Value.slice.injEq, and_true] at hcs
    obtain ⟨rfl, rfl, rfl⟩ := hcs
    simp only [if_true] at hmm
    subst hmm
    have hel : ∀ i, i < len → ∃ r : UInt8 × UInt8, w.cell? (a.add (i * 2)) = some (.int .u8 r.1.toNat) ∧ w.cell? (a.add (i * 2 + 1)) = some (.int .u8 r.2.toNat) := by
      intro i hlt
      obtain ⟨cs', hc, ht⟩ := hi i (by omega)
      rw [cells2N] at hc
      obtain ⟨_, hcl, hcc⟩ := World.cells?_some hc
      obtain ⟨y0, y1, n', _, _, t0, t1⟩ := trod_struct2 Try.underlying168 ht
      obtain ⟨c0, c1, rfl⟩ := two_ofN hcl
      · rw [cells1N] at t0 t1
        obtain ⟨x0, e0, _, w0⟩ := DataW.trod_int Try.underlying5 t0
        obtain ⟨x1, e1, _, w1⟩ := DataW.trod_int Try.underlying5 t1
        simp at e0 e1
        obtain ⟨b0, rfl⟩ := byte_ofN w0
        obtain ⟨b1, rfl⟩ := byte_ofN w1
        have h0 := hcc 0 (by omega)
        have h1 := hcc 1 (by omega)
        rw [add_add] at h0 h1
        refine ⟨(b0, b1), ?_, ?_⟩
        · rw [Nat.add_zero] at h0; rw [h0]; simp [e0]
        · rw [h1]; simp [e1]
    obtain ⟨f, hf⟩ := choose_lt hel
    refine ⟨(List.range len).map f, ⟨by simp, fun hn => ?_⟩, by omega, (fun h => by cases h), (fun h => by cases h), fun ad h => ⟨_, _, by rw [hx], by simp⟩⟩
    obtain ⟨b, off, spot⟩ := a
    have hspot : spot = none := by simpa [Addr.add] using World.cell?_spot (hf 0 hn).1
    subst hspot
    refine ⟨b, off, rfl, by simpa [Addr.add] using lt_of_cellN (hf 0 hn).1, fun i r hr => ?_⟩
    have hi' : i < len := by have := (List.getElem?_eq_some_iff.1 hr).1; simpa using this
    have hr' : f i = r := by
      rw [List.getElem?_map, List.getElem?_range hi'] at hr
      simpa using hr
    obtain ⟨q0, q1⟩ := hf i hi'
    rw [hr'] at q0 q1
    rw [Addr.add_mid] at q0 q1
    exact ⟨q0, q1⟩

theorem cells_node : Try.prog.cellsOf 25 = 3 := by kernel_rfl
theorem cells_rs : Try.prog.cellsOf 22 = 1 := by kernel_rfl
theorem cells_nodes : Try.prog.cellsOf 23 = 1 := by kernel_rfl
theorem cells_intN : Try.prog.cellsOf 3 = 1 := by kernel_rfl
theorem three_ofN {l : List Value} (h : l.length = 3) : ∃ a b c, l = [a, b, c] := by
  match l, h with
  | [a, b, c], _ => exact ⟨a, b, c, rfl⟩
theorem slice_formN {H : Type} {enc : TypeId × Value → H} {w : World} {fuel : Nat} {t e : TypeId} (hu : Try.prog.underlying t = some (.slice e)) {c : Value} {x : DataW H × List MemPlace} (h : DataW.trod enc Try.prog w 0 (fun _ => true) true fuel t [c] = some x) : ∃ a l k, c = .slice a l k := by
  rcases open_slice hu h with ⟨h0, _⟩ | ⟨a, len, cap, _, _, _, _, hcs, _⟩
  · exact ⟨none, 0, 0, by simpa using h0⟩
  · exact ⟨some a, len, cap, by simpa using hcs⟩
theorem open_node {H : Type} {enc : TypeId × Value → H} {w : World} : ∀ (fuel : Nat) {cs : List Value} {x : DataW H × List MemPlace}, DataW.trod enc Try.prog w 0 (fun _ => true) true fuel 25 cs = some x → ∃ d t, TreeAt w (· < w.heap.size) d t cs := by
  intro fuel
  induction fuel using Nat.strongRecOn with
  | ind fuel ih =>
    intro cs x h
    obtain ⟨xs, n, hfu, hx, hcl, hlen, hf⟩ := DataW.trod_struct Try.underlying25 h
    rw [cells_node] at hcl
    obtain ⟨c0, c1, c2, rfl⟩ := three_ofN hcl
    match xs, hlen, hf with
    | [y0, y1, y2], _, hf =>
      have t0 : DataW.trod enc Try.prog w 0 (fun _ => true) true n 3 [c0] = some y0 := by simpa [cells_intN] using hf 0 _ rfl
      have t1 : DataW.trod enc Try.prog w 0 (fun _ => true) true n 22 [c1] = some y1 := by simpa [cells_rs] using hf 1 _ rfl
      have t2 : DataW.trod enc Try.prog w 0 (fun _ => true) true n 23 [c2] = some y2 := by simpa [cells_nodes] using hf 2 _ rfl
      obtain ⟨k, e0, _, _⟩ := DataW.trod_int Try.underlying3 t0
      simp only [List.cons.injEq, and_true] at e0
      subst e0
      obtain ⟨ra, rl, rk, rfl⟩ := slice_formN Try.underlying22 t1
      obtain ⟨rs, hrs, hrm, _⟩ := open_rgs t1
      rcases DataW.trod_slice Try.underlying23 t2 with ⟨e3, _⟩ | ⟨a, len, cap, elems, rest, n2, hfu2, e3, _, _, hl, hm, hel, hc, _⟩
      · simp only [List.cons.injEq, and_true] at e3
        subst e3
        exact ⟨1, .mk k rs [], ra, rl, rk, none, 0, 0, rfl, hrm, ⟨Nat.zero_le _, Nat.le_refl _⟩, hrs, rfl, fun h0 => absurd h0 (by omega)⟩
      · simp only [List.cons.injEq, and_true] at e3
        subst e3
        have hel : ∀ i, i < len → ∃ q : Nat × Tr × Value × Value × Value, w.cell? (a.add (i * 3)) = some q.2.2.1 ∧ w.cell? (a.add (i * 3 + 1)) = some q.2.2.2.1 ∧ w.cell? (a.add (i * 3 + 2)) = some q.2.2.2.2 ∧ TreeAt w (· < w.heap.size) q.1 q.2.1 [q.2.2.1, q.2.2.2.1, q.2.2.2.2] := by
          intro i hlt
          have key := hc i hlt
          rw [List.getElem?_eq_getElem (by omega)] at key
          obtain ⟨cs', h1, h2⟩ := Option.bind_eq_some_iff.1 key
          rw [cells_node] at h1
          obtain ⟨_, hcl', hcc⟩ := World.cells?_some h1
          obtain ⟨d, t, ht⟩ := ih n2 (by omega) h2
          obtain ⟨u0, u1, u2, rfl⟩ := three_ofN hcl'
          have h0 := hcc 0 (by omega)
          have h1 := hcc 1 (by omega)
          have h2 := hcc 2 (by omega)
          rw [add_add] at h0 h1 h2
          rw [Nat.add_zero] at h0
          exact ⟨(d, t, u0, u1, u2), h0, h1, h2, ht⟩
        haveI : Inhabited Tr := ⟨.mk 0 [] []⟩
        obtain ⟨f, hf'⟩ := choose_lt hel
        have hmax : ∀ m, ∃ D, ∀ i, i < m → (f i).1 ≤ D := by
          intro m
          induction m with
          | zero => exact ⟨0, fun i hi => by omega⟩
          | succ m ihm =>
            obtain ⟨D, hD⟩ := ihm
            refine ⟨max D (f m).1, fun i hi => ?_⟩
            rcases Nat.lt_or_ge i m with h' | h'
            · have := hD i h'; omega
            · obtain rfl : i = m := by omega
              omega
        obtain ⟨D, hD⟩ := hmax len
        refine ⟨D + 1, .mk k rs ((List.range len).map fun i => (f i).2.1), ra, rl, rk, some a, len, cap, rfl, hrm, ⟨by omega, hl⟩, hrs, by simp, fun hpos => ?_⟩
        obtain ⟨b, off, spot⟩ := a
        have hspot : spot = none := by simpa [Addr.add] using World.cell?_spot (hf' 0 hpos).1
        subst hspot
        refine ⟨b, off, rfl, by simpa [Addr.add] using lt_of_cellN (hf' 0 hpos).1, fun i t ht => ?_⟩
        have hi' : i < len := by have := (List.getElem?_eq_some_iff.1 ht).1; simpa using this
        have ht' : (f i).2.1 = t := by
          rw [List.getElem?_map, List.getElem?_range hi'] at ht
          simpa using ht
        obtain ⟨q0, q1, q2, q3⟩ := hf' i hi'
        rw [Addr.add_mid] at q0 q1 q2
        rw [ht'] at q3
        exact ⟨_, _, _, q0, q1, q2, q3.deeper (hD i hi')⟩
set_option maxRecDepth 100000 in
/-- A tree, by value. -/
theorem open_N {H : Type} {enc : TypeId × Value → H} {w : World} {r : Reach} {b0 : Nat} {v : Value} {d : DataW H} {p : List MemPlace} (hv : Value.okWide Try.prog w r b0 25 v) (h : DataW.Trod enc Try.prog w 0 (fun _ => true) true 25 v d p) :
    ∃ v0 v1 v2 D t, v = .agg #[v0, v1, v2] ∧ TreeAt w (· < w.heap.size) D t [v0, v1, v2] := by
  obtain ⟨cs, rfl, _⟩ := okWide_struct Try.underlying25 hv
  obtain ⟨fuel, hf⟩ := h
  obtain ⟨D, t, ht⟩ := open_node fuel hf
  obtain ⟨v0, v1, v2, hcs⟩ : ∃ v0 v1 v2, cs.toList = [v0, v1, v2] := by
    match D, t, ht with
    | D + 1, .mk k rs kids, ht => obtain ⟨A, n, c, A', n', c', h1, _⟩ := ht; exact ⟨_, _, _, h1⟩
  have hcs' : cs = #[v0, v1, v2] := Array.toList_inj.1 (by simpa using hcs)
  refine ⟨v0, v1, v2, D, t, by rw [hcs'], ?_⟩
  have ht' : TreeAt w (· < w.heap.size) D t cs.toList := ht
  rw [hcs] at ht'
  exact ht'
end Go.Proofs.Ytgcbcdbfeaepkaa
