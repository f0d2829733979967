/- A walk in memory: its top, its marks, its rows; what each step leaves. nfa's reach: all states that a state leads to without a byte. -/
import Derived.Test.YtjnhmcgjeljcmaaOl
import Derived.Deep.AppendSrc
import Derived.Deep.Upon
namespace Go.Proofs.Ytjnhmcgjeljcmaa
open Go.RowKit Go.Maps

def pcC (p : Nat × Nat) : List Value := [intV p.1, intV p.2]
/-- A walk's top, its marks, what it holds, what is left to follow. -/
structure WkT (w : World) (wp qb pp : Nat) (vh v3 vu : Value) (W : WS) (st : List Nat) : Prop where
  top : Blk w wp 157 #[.pointer (some ⟨pp, 0, none⟩), .slice (some ⟨qb, 0, none⟩) W.seen.length W.seen.length, vh, v3, .bool W.found, intV W.frm, intV W.to, vu]
  seen : Blk w qb 3 (W.seen.map intV).toArray
  held : w.ownsRow 0 177 2 vh W.held.length (W.held.flatMap pcC)
  unf : w.ownsRow 0 3 1 vu st.length (st.map intV)
  q : qb ≠ wp
  h : ∀ b, vh.ownBlock = some b → b ≠ wp ∧ b ≠ qb ∧ vu.ownBlock ≠ some b
  u : ∀ b, vu.ownBlock = some b → b ≠ wp ∧ b ≠ qb
/-- Its blocks. -/
def ZX (wp qb : Nat) (vh vu : Value) (j : Nat) : Prop := j = wp ∨ j = qb ∨ vh.ownBlock = some j ∨ vu.ownBlock = some j
/-- A walk in just the blocks of Z. -/
def Wk (w : World) (Z : Nat → Prop) (wp pp : Nat) (v3 : Value) (W : WS) (st : List Nat) : Prop := ∃ qb vh vu, WkT w wp qb pp vh v3 vu W st ∧ ∀ j, ZX wp qb vh vu j ↔ Z j
section
variable {w w' : World} {wp qb pp : Nat} {vh v3 vu : Value} {W : WS} {st : List Nat} {Z : Nat → Prop}
theorem WkT.lt (h : WkT w wp qb pp vh v3 vu W st) {j : Nat} (hj : ZX wp qb vh vu j) : j < w.heap.size := by
  rcases hj with rfl | rfl | hj | hj
  · exact h.top.lt
  · exact h.seen.lt
  · exact (h.held.lt j hj).2
  · exact (h.unf.lt j hj).2
theorem WkT.keep (h : WkT w wp qb pp vh v3 vu W st) (hk : ∀ b, ZX wp qb vh vu b → w'.heap[b]? = w.heap[b]?) : WkT w' wp qb pp vh v3 vu W st :=
  ⟨(hk _ (.inl rfl)).trans h.top, (hk _ (.inr (.inl rfl))).trans h.seen, row_keep h.held fun b hb => hk b (.inr (.inr (.inl hb))), row_keep h.unf fun b hb => hk b (.inr (.inr (.inr hb))), h.q, h.h, h.u⟩
theorem Wk.old (h : Wk w Z wp pp v3 W st) {j : Nat} (hj : Z j) : j < w.heap.size := by obtain ⟨qb, vh, vu, h1, h2⟩ := h; exact h1.lt ((h2 j).2 hj)
theorem Wk.keep (h : Wk w Z wp pp v3 W st) (hk : ∀ b, Z b → b < w.heap.size → w'.heap[b]? = w.heap[b]?) : Wk w' Z wp pp v3 W st := by
  obtain ⟨qb, vh, vu, h1, h2⟩ := h
  exact ⟨qb, vh, vu, h1.keep fun b hb => hk b ((h2 b).1 hb) (h1.lt hb), h2⟩
theorem Wk.below (h : Wk w Z wp pp v3 W st) (hb : Below w.heap.size w w') : Wk w' Z wp pp v3 W st := h.keep fun b _ hl => hb.block b hl
theorem wk_cells {a b c d e f g i : Value} (h : Blk w wp 157 #[a, b, c, d, e, f, g, i]) : w.cell? ⟨wp, 0, none⟩ = some a ∧ w.cell? ⟨wp, 1, none⟩ = some b ∧ w.cell? ⟨wp, 2, none⟩ = some c ∧ w.cell? ⟨wp, 3, none⟩ = some d ∧ w.cell? ⟨wp, 4, none⟩ = some e ∧ w.cell? ⟨wp, 5, none⟩ = some f ∧ w.cell? ⟨wp, 6, none⟩ = some g ∧ w.cell? ⟨wp, 7, none⟩ = some i ∧
    w.frozen? ⟨wp, 2, none⟩ = false ∧ w.frozen? ⟨wp, 3, none⟩ = false ∧ w.frozen? ⟨wp, 4, none⟩ = false ∧ w.frozen? ⟨wp, 5, none⟩ = false ∧ w.frozen? ⟨wp, 6, none⟩ = false ∧ w.frozen? ⟨wp, 7, none⟩ = false :=
  ⟨h.cell 0, h.cell 1, h.cell 2, h.cell 3, h.cell 4, h.cell 5, h.cell 6, h.cell 7, h.frozen 2, h.frozen 3, h.frozen 4, h.frozen 5, h.frozen 6, h.frozen 7⟩
/-- A mark. -/
theorem WkT.seen_at (h : WkT w wp qb pp vh v3 vu W st) {s v : Nat} (hs : W.seen[s]? = some v) : w.cell? ⟨qb, s, none⟩ = some (intV v) ∧ w.frozen? ⟨qb, s, none⟩ = false := by
  refine ⟨?_, h.seen.frozen s⟩
  rw [h.seen.cell, List.getElem?_toArray, List.getElem?_map, hs]; rfl
theorem own_take {B : Nat} {e : TypeId} {sz n m : Nat} {A : Option Addr} {c : Nat} {xs : List Value} (h : w.ownsRow B e sz (.slice A n c) n xs) (hm : m ≤ n) : w.ownsRow B e sz (.slice A m c) m (xs.take (m * sz)) := by
  rcases h.2 with ⟨e1, h0⟩ | ⟨g, cap, cur, e1, h1, h2, h3, h4, h5, h6⟩
  · injection e1 with e1 e2 e3
    subst e1 e3
    obtain rfl : m = 0 := by omega
    exact ⟨by simp, .inl ⟨rfl, rfl⟩⟩
  · injection e1 with e1 _ e3
    subst e1 e3
    have hle : m * sz ≤ n * sz := Nat.mul_le_mul_right _ hm
    refine ⟨by rw [List.length_take, h.1]; omega, .inr ⟨g, c, cur, rfl, h1, h2, by omega, h4, h5, ?_⟩⟩
    rw [← h6, List.take_take, Nat.min_eq_left hle]
/-- The last one that is left to follow. -/
theorem WkT.pop {s : Nat} (h : WkT w wp qb pp vh v3 vu W (st ++ [s])) : ∃ ub c, vu = .slice (some ⟨ub, 0, none⟩) (st.length + 1) c ∧ st.length + 1 ≤ c ∧ c ≤ maxLen ∧ w.cell? ⟨ub, st.length, none⟩ = some (intV s) ∧
    WkT (w.setCell ⟨wp, 7, none⟩ (.slice (some ⟨ub, 0, none⟩) st.length c)) wp qb pp vh v3 (.slice (some ⟨ub, 0, none⟩) st.length c) W st := by
  have hu := h.unf
  rw [List.length_append, List.length_singleton] at hu
  rcases hu.2 with ⟨_, h0⟩ | ⟨g, cap, cur, e1, h1, h2, h3, h4, h5, h6⟩
  · omega
  subst e1
  have hgw := (h.u g rfl).1
  have hfar : ∀ b, b ≠ wp → (w.setCell ⟨wp, 7, none⟩ (.slice (some ⟨g, 0, none⟩) st.length cap)).heap[b]? = w.heap[b]? := fun b hb => Below.heap_setCell w _ _ b hb
  refine ⟨g, cap, rfl, h3, h4, ?_, h.top.set_ 7 _, (hfar qb h.q).trans h.seen, row_keep h.held fun b hb => hfar b (h.h b hb).1, ?_, h.q, fun b hb => h.h b hb, fun b hb => h.u b hb⟩
  · rw [cell_of_row w g st.length cur 3 (0, 0) h2, ← Array.getElem?_toList]
    have h7 : (cur.toList.take ((st.length + 1) * 1))[st.length]? = some (intV s) := by rw [h6]; simp
    rwa [List.getElem?_take_of_lt (by omega)] at h7
  · have := own_take hu (Nat.le_succ st.length)
    rw [Nat.mul_one, List.map_append, List.take_append_of_le_length (by simp), List.take_of_length_le (by simp)] at this
    exact row_keep this fun b hb => hfar b (h.u b hb).1
/-- A state marked. -/
theorem WkT.mark {s a : Nat} (h : WkT w wp qb pp vh v3 vu W st) : WkT (w.setCell ⟨qb, s, none⟩ (intV a)) wp qb pp vh v3 vu (W.marks s a) st := by
  have hfar : ∀ b, b ≠ qb → (w.setCell ⟨qb, s, none⟩ (intV a)).heap[b]? = w.heap[b]? := fun b hb => Below.heap_setCell w _ _ b hb
  have hl : (W.marks s a).seen.length = W.seen.length := by simp [WS.marks]
  refine ⟨?_, ?_, row_keep h.held fun b hb => hfar b (h.h b hb).2.1, row_keep h.unf fun b hb => hfar b (h.u b hb).2, h.q, h.h, h.u⟩
  · rw [hl]; exact (hfar wp (Ne.symm h.q)).trans h.top
  · have := h.seen.set_ s (intV a)
    rw [show (W.seen.map intV).toArray.setIfInBounds s (intV a) = ((W.marks s a).seen.map intV).toArray by simp [WS.marks, List.map_set]] at this
    exact this
/-- A piece is over. -/
theorem WkT.ends (h : WkT w wp qb pp vh v3 vu W st) (f t : Nat) : WkT (((w.setCell ⟨wp, 4, none⟩ (.bool true)).setCell ⟨wp, 5, none⟩ (intV f)).setCell ⟨wp, 6, none⟩ (intV t)) wp qb pp vh v3 vu ⟨W.seen, W.held, true, f, t⟩ st := by
  have hfar : ∀ b, b ≠ wp → (((w.setCell ⟨wp, 4, none⟩ (.bool true)).setCell ⟨wp, 5, none⟩ (intV f)).setCell ⟨wp, 6, none⟩ (intV t)).heap[b]? = w.heap[b]? := fun b hb =>
    (Below.heap_setCell _ _ _ b hb).trans ((Below.heap_setCell _ _ _ b hb).trans (Below.heap_setCell _ _ _ b hb))
  exact ⟨((h.top.set_ 4 _).set_ 5 _).set_ 6 _, (hfar qb h.q).trans h.seen, row_keep h.held fun b hb => hfar b (h.h b hb).1, row_keep h.unf fun b hb => hfar b (h.u b hb).1, h.q, h.h, h.u⟩
theorem piece_info : (Try.prog.info? 177).map (fun i => (i.zero, i.size, i.bytes)) = some (some (.agg #[.int .i64 0, .int .i64 0]), 2, 16) := by kernel_rfl
theorem flat_pc (ps : List (Nat × Nat)) : (ps.flatMap pcC).length = ps.length * 2 := by
  induction ps with
  | nil => rfl
  | cons p r ih => rw [List.flatMap_cons, List.length_append, ih, List.length_cons, Nat.succ_mul, Nat.add_comm]; rfl
/-- A piece more that is held. -/
theorem WkT.hold (ty : TypeId) (h : WkT w wp qb pp vh v3 vu W st) {tb f s : Nat} (ht : Blk w tb 177 #[intV f, intV s]) (hl : W.held.length + 1 ≤ 1000000) :
    ∃ A' c' w', (Builtin.append_ #[155, 155] ty #[vh, .slice (some ⟨tb, 0, none⟩) 1 1]).run Try.prog w = .ok (.slice A' (W.held.length + 1) c') w' ∧ w'.heap[wp]? = w.heap[wp]? ∧
      WkT (w'.setCell ⟨wp, 2, none⟩ (.slice A' (W.held.length + 1) c')) wp qb pp (.slice A' (W.held.length + 1) c') v3 vu ⟨W.seen, W.held ++ [(f, s)], W.found, W.frm, W.to⟩ st ∧ w.grownBy w' vh.ownBlock ∧ ((Value.slice A' (W.held.length + 1) c').ownBlock = vh.ownBlock ∨ (Value.slice A' (W.held.length + 1) c').ownBlock = some w.heap.size) := by
  obtain ⟨i0, hi0, hz0, hz1, hz2⟩ := info_parts piece_info
  obtain ⟨v', w', h1, h2, h3, _, h5⟩ := run_append_own_at (P := Try.prog) w 0 155 ty 177 i0 _ 2 16 Try.underlying155 hi0 hz0 hz1 hz2 rfl (by decide) vh W.held.length (W.held.flatMap pcC) h.held ⟨tb, 0, none⟩ 1 1 [intV f, intV s] rfl
    (fun j u hu => by
      have e : (⟨tb, 0, none⟩ : Addr).add j = ⟨tb, j, none⟩ := by unfold Addr.add; split <;> simp_all
      rw [e, ht.cell, ← hu, ← List.getElem?_toArray])
    (fun u hu => by
      rcases List.mem_cons.1 hu with rfl | hu
      · rfl
      · obtain rfl := List.mem_singleton.1 hu; rfl) (by unfold maxLen; omega) (by omega) (Nat.zero_le _)
  obtain ⟨A', c', e⟩ : ∃ A' c', v' = .slice A' (W.held.length + 1) c' := by
    rcases h2.2 with ⟨_, h0⟩ | ⟨g, cap, _, e, _⟩
    · omega
    · exact ⟨_, _, e⟩
  subst e
  have hold : ∀ b, b < w.heap.size → vh.ownBlock ≠ some b → b ≠ wp → (w'.setCell ⟨wp, 2, none⟩ (.slice A' (W.held.length + 1) c')).heap[b]? = w.heap[b]? := fun b hb hv hp => (Below.heap_setCell w' _ _ b hp).trans (h3.block b hb (fun e => hv e.symm))
  have hwp : w'.heap[wp]? = w.heap[wp]? := h3.block wp h.top.lt (fun e => (h.h wp e.symm).1 rfl)
  have hnew : ∀ b, (Value.slice A' (W.held.length + 1) c').ownBlock = some b → vh.ownBlock = some b ∨ b = w.heap.size := fun b hb => by
    rcases h5 with h5 | h5
    · left; rw [← h5]; exact hb
    · right; rw [h5] at hb; exact (Option.some.inj hb).symm
  have hwl := h.top.lt
  have hql := h.seen.lt
  have hnb : ∀ b, (Value.slice A' (W.held.length + 1) c').ownBlock = some b → b ≠ wp ∧ b ≠ qb ∧ vu.ownBlock ≠ some b := fun b hb => by
    rcases hnew b hb with h6 | rfl
    · exact h.h b h6
    · exact ⟨by omega, by omega, fun e => by have := (h.unf.lt _ e).2; omega⟩
  refine ⟨A', c', w', h1, hwp, ⟨Blk.set_ (hwp.trans h.top) 2 _, (hold qb hql (fun e => (h.h qb e).2.1 rfl) h.q).trans h.seen, ?_, row_keep h.unf fun b hb => hold b (h.unf.lt b hb).2 (fun e => (h.h b e).2.2 hb) (h.u b hb).1, h.q, hnb, h.u⟩, h3, h5⟩
  have : (w'.setCell ⟨wp, 2, none⟩ (.slice A' (W.held.length + 1) c')).ownsRow 0 177 2 (.slice A' (W.held.length + 1) c') (W.held.length + 1) (W.held.flatMap pcC ++ [intV f, intV s]) := row_keep h2 fun b hb => Below.heap_setCell w' _ _ b (hnb b hb).1
  rw [List.length_append, List.flatMap_append]
  simpa [pcC] using this
/-- More that is left to follow. -/
theorem WkT.push (ty : TypeId) (h : WkT w wp qb pp vh v3 vu W st) {ad : Addr} {ns : List Nat} (hc : ∀ (j u : Nat), ns[j]? = some u → w.cell? (ad.add j) = some (intV u)) (h0 : 0 < ns.length) (hl : st.length + ns.length ≤ 1000000) (c0 : Nat) :
    ∃ A' c' w', (Builtin.append_ #[39, 39] ty #[vu, .slice (some ad) ns.length c0]).run Try.prog w = .ok (.slice A' (st.length + ns.length) c') w' ∧ w'.heap[wp]? = w.heap[wp]? ∧
      WkT (w'.setCell ⟨wp, 7, none⟩ (.slice A' (st.length + ns.length) c')) wp qb pp vh v3 (.slice A' (st.length + ns.length) c') W (st ++ ns) ∧ w.grownBy w' vu.ownBlock ∧ ((Value.slice A' (st.length + ns.length) c').ownBlock = vu.ownBlock ∨ (Value.slice A' (st.length + ns.length) c').ownBlock = some w.heap.size) := by
  obtain ⟨i0, hi0, hz0, hz1, hz2⟩ := info_parts int_info
  obtain ⟨v', w', h1, h2, h3, _, h5⟩ := run_append_own_at (P := Try.prog) w 0 39 ty 3 i0 _ 1 8 Try.underlying39 hi0 hz0 hz1 hz2 rfl (by decide) vu st.length (st.map intV) h.unf ad ns.length c0 (ns.map intV) (by rw [List.length_map, Nat.mul_one])
    (fun j u hu => by
      rw [List.getElem?_map] at hu
      cases hj : ns[j]? with
      | none => rw [hj] at hu; cases hu
      | some z => rw [hj] at hu; obtain rfl := Option.some.inj hu; exact hc j z hj)
    (fun u hu => by obtain ⟨z, _, rfl⟩ := List.mem_map.1 hu; rfl) (by unfold maxLen; omega) (by omega) (Nat.zero_le _)
  obtain ⟨A', c', e⟩ : ∃ A' c', v' = .slice A' (st.length + ns.length) c' := by
    rcases h2.2 with ⟨_, h0⟩ | ⟨g, cap, _, e, _⟩
    · omega
    · exact ⟨_, _, e⟩
  subst e
  have hold : ∀ b, b < w.heap.size → vu.ownBlock ≠ some b → b ≠ wp → (w'.setCell ⟨wp, 7, none⟩ (.slice A' (st.length + ns.length) c')).heap[b]? = w.heap[b]? := fun b hb hv hp => (Below.heap_setCell w' _ _ b hp).trans (h3.block b hb (fun e => hv e.symm))
  have hwp : w'.heap[wp]? = w.heap[wp]? := h3.block wp h.top.lt (fun e => (h.u wp e.symm).1 rfl)
  have hnew : ∀ b, (Value.slice A' (st.length + ns.length) c').ownBlock = some b → vu.ownBlock = some b ∨ b = w.heap.size := fun b hb => by
    rcases h5 with h5 | h5
    · left; rw [← h5]; exact hb
    · right; rw [h5] at hb; exact (Option.some.inj hb).symm
  have hwl := h.top.lt
  have hql := h.seen.lt
  have hnb : ∀ b, (Value.slice A' (st.length + ns.length) c').ownBlock = some b → b ≠ wp ∧ b ≠ qb := fun b hb => by
    rcases hnew b hb with h6 | rfl
    · exact h.u b h6
    · exact ⟨by omega, by omega⟩
  refine ⟨A', c', w', h1, hwp, ⟨Blk.set_ (hwp.trans h.top) 7 _, (hold qb hql (fun e => (h.u qb e).2 rfl) h.q).trans h.seen, row_keep h.held fun b hb => hold b (h.held.lt b hb).2 (h.h b hb).2.2 (h.h b hb).1, ?_, h.q, fun b hb => ⟨(h.h b hb).1, (h.h b hb).2.1, fun e => ?_⟩, hnb⟩, h3, h5⟩
  · rw [List.length_append, List.map_append]
    exact row_keep h2 fun b hb => Below.heap_setCell w' _ _ b (hnb b hb).1
  · rcases hnew b e with h6 | rfl
    · exact (h.h b hb).2.2 h6
    · have := (h.held.lt _ hb).2; omega
end
end Go.Proofs.Ytjnhmcgjeljcmaa
namespace Go.Proofs.Ytjnhmcgjeljcmaa
open Go.RowKit Go.Maps

/-- What is read of a machine. -/
theorem Mach.read {w : World} {X : Nat → Prop} {pp : Nat} {start steps : Int} {S : List St} (h : Mach w X pp start steps S) (hS : 0 < S.length) : ∃ sb c, w.cell? ⟨pp, 0, none⟩ = some (.slice (some ⟨sb, 0, none⟩) S.length c) ∧ w.cell? ⟨pp, 1, none⟩ = some (.int .i64 start) ∧ w.cell? ⟨pp, 2, none⟩ = some (.int .i64 steps) ∧ w.frozen? ⟨pp, 2, none⟩ = false ∧ X sb ∧ X pp ∧ sb ≠ pp ∧ S.length ≤ c ∧ c ≤ maxLen ∧
    ∀ (q : Nat) (x : St), S[q]? = some x → (∀ j, j < 256 → w.cell? ⟨sb, q * 258 + j, none⟩ = some (.bool (x.bytes j))) ∧ w.cell? ⟨sb, q * 258 + 256, none⟩ = some (.bool x.fork) ∧
      ∃ A c', w.cell? ⟨sb, q * 258 + 257, none⟩ = some (.slice A x.next.length c') ∧ x.next.length ≤ c' ∧ (∀ (j z : Nat), x.next[j]? = some z → ∃ g, A = some ⟨g, 0, none⟩ ∧ X g ∧ w.cell? ⟨g, j, none⟩ = some (intV z)) ∧ (A = none → c' = 0) ∧ ∀ ad, A = some ad → ∃ g, ad = ⟨g, 0, none⟩ := by
  obtain ⟨v, rs, rfl, h2, h3⟩ := h
  rw [List.length_map] at hS ⊢
  obtain ⟨sb, c, rfl, c1, c2, hsl, hsp, _, hcell⟩ := h2.cells (fun e => by rw [e] at hS; exact Nat.lt_irrefl _ hS)
  refine ⟨sb, c, h2.top.cell 0, h2.top.cell 1, h2.top.cell 2, h2.top.frozen 2, (h3 sb).1 (.inr (.inl rfl)), (h3 pp).1 (.inl rfl), hsp, c1, c2, fun q x hx => ?_⟩
  rw [List.getElem?_map] at hx
  cases hr : rs[q]? with
  | none => rw [hr] at hx; cases hx
  | some r =>
    rw [hr] at hx
    obtain rfl := Option.some.inj hx
    refine ⟨fun j hj => by rw [(hcell q r j hr (by omega)).1, stC_byte _ _ hj], by rw [(hcell q r 256 hr (by decide)).1, stC_fork], ?_⟩
    have hn := h2.next q r hr
    have hnv := (hcell q r 257 hr (by decide)).1
    rw [stC_next] at hnv
    rcases hn.2 with ⟨e, h0⟩ | ⟨g, cap, cur, e, _, q2, q3, _, _, q6⟩
    · rw [e] at hnv
      exact ⟨none, 0, by rw [hnv, h0], by omega, fun j z hz => by have := (List.getElem?_eq_some_iff.1 hz).1; omega, fun _ => rfl, fun ad h => by cases h⟩
    · rw [e] at hnv
      refine ⟨some ⟨g, 0, none⟩, cap, hnv, q3, fun j z hz => ⟨g, rfl, (h3 g).1 (.inr (.inr ⟨q, r, hr, by rw [e]; rfl⟩)), ?_⟩, (fun h => by cases h), fun ad h => ⟨g, (Option.some.inj h).symm⟩⟩
      have hl := (List.getElem?_eq_some_iff.1 hz).1
      rw [cell_of_row w g j cur 3 (0, 0) q2, ← Array.getElem?_toList]
      have h7 : (cur.toList.take (r.x.next.length * 1))[j]? = some (intV z) := by rw [q6, List.getElem?_map, hz]; rfl
      rwa [List.getElem?_take_of_lt (by omega)] at h7
section
variable {w w' : World} {wp qb pp : Nat} {vh v3 vu : Value} {W : WS} {st : List Nat}
/-- All that a state goes on to is left to follow. -/
theorem WkT.pushN (ty : TypeId) (h : WkT w wp qb pp vh v3 vu W st) {A : Option Addr} {ns : List Nat} {c0 : Nat} (hc : ∀ (j u : Nat), ns[j]? = some u → ∃ g, A = some ⟨g, 0, none⟩ ∧ w.cell? ⟨g, j, none⟩ = some (intV u)) (hA : A = none → c0 = 0) (hA2 : ∀ ad, A = some ad → ∃ g, ad = ⟨g, 0, none⟩) (hl : st.length + ns.length ≤ 1000000) :
    ∃ A' c' w', (Builtin.append_ #[39, 39] ty #[vu, .slice A ns.length c0]).run Try.prog w = .ok (.slice A' (st.length + ns.length) c') w' ∧ w'.heap[wp]? = w.heap[wp]? ∧
      WkT (w'.setCell ⟨wp, 7, none⟩ (.slice A' (st.length + ns.length) c')) wp qb pp vh v3 (.slice A' (st.length + ns.length) c') W (st ++ ns) ∧ w.grownBy w' vu.ownBlock ∧ ((Value.slice A' (st.length + ns.length) c').ownBlock = vu.ownBlock ∨ (Value.slice A' (st.length + ns.length) c').ownBlock = some w.heap.size) := by
  rcases Nat.eq_zero_or_pos ns.length with h0 | h0
  · obtain rfl : ns = [] := List.eq_nil_of_length_eq_zero h0
    obtain ⟨i0, hi0, hz0, hz1, hz2⟩ := info_parts int_info
    have hu := h.unf
    obtain ⟨A1, c1, rfl, hle⟩ : ∃ A1 c1, vu = .slice A1 st.length c1 ∧ st.length ≤ c1 := by
      rcases hu.2 with ⟨e, h0⟩ | ⟨g, cap, cur, e, _, _, h3, _⟩
      · exact ⟨none, 0, by rw [h0]; exact e, by omega⟩
      · exact ⟨_, cap, e, h3⟩
    have hs : Src Try.prog i0.size 39 (.slice A ([] : List Nat).length c0) 0 [] w := by
      cases A with
      | none => obtain rfl := hA rfl; exact Src.ofNil w Try.underlying39 0
      | some ad => rw [hz1]; exact Src.ofSlice w Try.underlying39 ad 0 c0 [] (by simp) (fun j u hu => by simp at hu) (fun u hu => nomatch hu)
    refine ⟨A1, c1, w, run_append_nothing w 39 39 ty 3 i0 Try.underlying39 hi0 A1 st.length c1 hle _ hs, rfl, ?_, gb_refl _ _, .inl rfl⟩
    have hfar : ∀ b, b ≠ wp → (w.setCell ⟨wp, 7, none⟩ (.slice A1 st.length c1)).heap[b]? = w.heap[b]? := fun b hb => Below.heap_setCell w _ _ b hb
    rw [List.append_nil]
    exact ⟨h.top.set_ 7 _, (hfar qb h.q).trans h.seen, row_keep h.held fun b hb => hfar b (h.h b hb).1, row_keep hu fun b hb => hfar b (h.u b hb).1, h.q, h.h, h.u⟩
  · obtain ⟨g, rfl, _⟩ := hc 0 ns[0] (List.getElem?_eq_getElem h0)
    exact h.push ty (fun j u hu => by
      obtain ⟨g', e, h1⟩ := hc j u hu
      injection e with e
      injection e with e _ _
      subst e
      have e2 : (⟨g, 0, none⟩ : Addr).add j = ⟨g, j, none⟩ := by unfold Addr.add; split <;> simp_all
      rw [e2]; exact h1) h0 hl c0
end
/-- What reach leaves. -/
def ReachPost (w : World) (Z : Nat → Prop) (wp pp : Nat) (v3 : Value) (S : List St) (first frm at_ : Nat) (W : WS) (e : Ending) (w' : World) : Prop :=
  e = .returned (.tuple #[]) ∧ ∃ Z' W', Wk w' Z' wp pp v3 W' [] ∧ ROut S first frm at_ W W' ∧ (∀ j, Z' j → Z j ∨ w.heap.size ≤ j) ∧ Kept Z w w'
end Go.Proofs.Ytjnhmcgjeljcmaa
