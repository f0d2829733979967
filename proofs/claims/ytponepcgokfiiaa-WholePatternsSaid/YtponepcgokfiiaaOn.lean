/- nfa's reach: all states that a state leads to without a byte. -/
import Derived.Test.YtponepcgokfiiaaOm
namespace Go.Proofs.Ytponepcgokfiiaa
open Go.RowKit Go.Maps

/-- What is read of a machine. -/
theorem Mach.read {w : World} {X : Nat → Prop} {pp : Nat} {start steps : Int} {S : List St} (h : Mach w X pp start steps S) (hS : 0 < S.length) : ∃ sb c, w.cell? ⟨pp, 0, none⟩ = some (.slice (some ⟨sb, 0, none⟩) S.length c) ∧ w.cell? ⟨pp, 1, none⟩ = some (.int .i64 start) ∧ w.cell? ⟨pp, 2, none⟩ = some (.int .i64 steps) ∧ w.frozen? ⟨pp, 2, none⟩ = false ∧ X sb ∧ X pp ∧ sb ≠ pp ∧ S.length ≤ c ∧ c ≤ maxLen ∧
    ∀ (q : Nat) (x : St), S[q]? = some x → (∀ j, j < 256 → w.cell? ⟨sb, q * 258 + j, none⟩ = some (.bool (x.bytes j))) ∧ w.cell? ⟨sb, q * 258 + 256, none⟩ = some (.bool x.fork) ∧
      ∃ A c', w.cell? ⟨sb, q * 258 + 257, none⟩ = some (.slice A x.next.length c') ∧ x.next.length ≤ c' ∧ (∀ (j z : Nat), x.next[j]? = some z → ∃ g, A = some ⟨g, 0, none⟩ ∧ X g ∧ w.cell? ⟨g, j, none⟩ = some (intV z)) ∧ (A = none → c' = 0) ∧ ∀ ad, A = some ad → ∃ g, ad = ⟨g, 0, none⟩ := by
  obtain ⟨v, rs, rfl, h2, h3⟩ := h
  rw [List.length_map] at hS ⊢
  obtain ⟨sb, c, rfl, c1, c2, hsl, hsp, _, hcell⟩ := h2.cells (fun e => by rw [e] at hS; exact Nat.lt_irrefl _ hS)
  refine ⟨sb, c, h2.top.cell 0, h2.top.cell 1, h2.top.cell 2, h2.top.frozen 2, (h3 sb).1 (.inr (.inl rfl)), (h3 pp).1 (.inl rfl), hsp, c1, c2, fun q x hx => ?_⟩
  rw [List.getElem?_map] at hx
  cases hr : rs[q]? with
  | none => rw [hr] at hx; cases hx
  | some r =>
    rw [hr] at hx
    obtain rfl := Option.some.inj hx
    refine ⟨fun j hj => by rw [(hcell q r j hr (by omega)).1, stC_byte _ _ hj], by rw [(hcell q r 256 hr (by decide)).1, stC_fork], ?_⟩
    have hn := h2.next q r hr
    have hnv := (hcell q r 257 hr (by decide)).1
    rw [stC_next] at hnv
    rcases hn.2 with ⟨e, h0⟩ | ⟨g, cap, cur, e, _, q2, q3, _, _, q6⟩
    · rw [e] at hnv
      exact ⟨none, 0, by rw [hnv, h0], by omega, fun j z hz => by have := (List.getElem?_eq_some_iff.1 hz).1; omega, fun _ => rfl, fun ad h => by cases h⟩
    · rw [e] at hnv
      refine ⟨some ⟨g, 0, none⟩, cap, hnv, q3, fun j z hz => ⟨g, rfl, (h3 g).1 (.inr (.inr ⟨q, r, hr, by rw [e]; rfl⟩)), ?_⟩, (fun h => by cases h), fun ad h => ⟨g, (Option.some.inj h).symm⟩⟩
      have hl := (List.getElem?_eq_some_iff.1 hz).1
      rw [cell_of_row w g j cur 3 (0, 0) q2, ← Array.getElem?_toList]
      have h7 : (cur.toList.take (r.x.next.length * 1))[j]? = some (intV z) := by rw [q6, List.getElem?_map, hz]; rfl
      rwa [List.getElem?_take_of_lt (by omega)] at h7
section
variable {w w' : World} {wp qb pp : Nat} {vh v3 vu : Value} {W : WS} {st : List Nat}
/-- All that a state goes on to is left to follow. -/
theorem WkT.pushN (ty : TypeId) (h : WkT w wp qb pp vh v3 vu W st) {A : Option Addr} {ns : List Nat} {c0 : Nat} (hc : ∀ (j u : Nat), ns[j]? = some u → ∃ g, A = some ⟨g, 0, none⟩ ∧ w.cell? ⟨g, j, none⟩ = some (intV u)) (hA : A = none → c0 = 0) (hA2 : ∀ ad, A = some ad → ∃ g, ad = ⟨g, 0, none⟩) (hl : st.length + ns.length ≤ 1000000) :
    ∃ A' c' w', (Builtin.append_ #[134, 134] ty #[vu, .slice A ns.length c0]).run Try.prog w = .ok (.slice A' (st.length + ns.length) c') w' ∧ w'.heap[wp]? = w.heap[wp]? ∧
      WkT (w'.setCell ⟨wp, 7, none⟩ (.slice A' (st.length + ns.length) c')) wp qb pp vh v3 (.slice A' (st.length + ns.length) c') W (st ++ ns) ∧ w.grownBy w' vu.ownBlock ∧ ((Value.slice A' (st.length + ns.length) c').ownBlock = vu.ownBlock ∨ (Value.slice A' (st.length + ns.length) c').ownBlock = some w.heap.size) := by
  rcases Nat.eq_zero_or_pos ns.length with h0 | h0
  · obtain rfl : ns = [] := List.eq_nil_of_length_eq_zero h0
    obtain ⟨i0, hi0, hz0, hz1, hz2⟩ := info_parts int_info
    have hu := h.unf
    obtain ⟨A1, c1, rfl, hle⟩ : ∃ A1 c1, vu = .slice A1 st.length c1 ∧ st.length ≤ c1 := by
      rcases hu.2 with ⟨e, h0⟩ | ⟨g, cap, cur, e, _, _, h3, _⟩
      · exact ⟨none, 0, by rw [h0]; exact e, by omega⟩
      · exact ⟨_, cap, e, h3⟩
    have hs : Src Try.prog i0.size 134 (.slice A ([] : List Nat).length c0) 0 [] w := by
      cases A with
      | none => obtain rfl := hA rfl; exact Src.ofNil w Try.underlying134 0
      | some ad => rw [hz1]; exact Src.ofSlice w Try.underlying134 ad 0 c0 [] (by simp) (fun j u hu => by simp at hu) (fun u hu => nomatch hu)
    refine ⟨A1, c1, w, run_append_nothing w 134 134 ty 3 i0 Try.underlying134 hi0 A1 st.length c1 hle _ hs, rfl, ?_, gb_refl _ _, .inl rfl⟩
    have hfar : ∀ b, b ≠ wp → (w.setCell ⟨wp, 7, none⟩ (.slice A1 st.length c1)).heap[b]? = w.heap[b]? := fun b hb => Below.heap_setCell w _ _ b hb
    rw [List.append_nil]
    exact ⟨h.top.set_ 7 _, (hfar qb h.q).trans h.seen, row_keep h.held fun b hb => hfar b (h.h b hb).1, row_keep hu fun b hb => hfar b (h.u b hb).1, h.q, h.h, h.u⟩
  · obtain ⟨g, rfl, _⟩ := hc 0 ns[0] (List.getElem?_eq_getElem h0)
    exact h.push ty (fun j u hu => by
      obtain ⟨g', e, h1⟩ := hc j u hu
      injection e with e
      injection e with e _ _
      subst e
      have e2 : (⟨g, 0, none⟩ : Addr).add j = ⟨g, j, none⟩ := by unfold Addr.add; split <;> simp_all
      rw [e2]; exact h1) h0 hl c0
end
/-- What reach leaves. -/
def ReachPost (w : World) (Z : Nat → Prop) (wp pp : Nat) (v3 : Value) (S : List St) (first frm at_ : Nat) (W : WS) (e : Ending) (w' : World) : Prop :=
  e = .returned (.tuple #[]) ∧ ∃ Z' W', Wk w' Z' wp pp v3 W' [] ∧ ROut S first frm at_ W W' ∧ (∀ j, Z' j → Z j ∨ w.heap.size ≤ j) ∧ Kept Z w w'
end Go.Proofs.Ytponepcgokfiiaa
