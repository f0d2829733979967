/- Machines in memory: states of 258 cells, each with a row of its own of what it goes on to. -/
import Derived.Test.YtepfpmnfecehbaaKn
namespace Go.Proofs.Ytepfpmnfecehbaa
open Go.RowKit Go.Maps

def intV (z : Nat) : Value := .int .i64 (z : Nat)
/-- A state's cells. -/
def stC (x : St) (nv : Value) : Array Value := rowV 256 (fun j => .bool (x.bytes j)) ++ #[.bool x.fork, nv]
theorem stC_size (x : St) (nv : Value) : (stC x nv).size = 258 := by simp [stC, rowV_size]
theorem stC_byte (x : St) (nv : Value) {j : Nat} (h : j < 256) : (stC x nv)[j]? = some (.bool (x.bytes j)) := by
  unfold stC
  rw [Array.getElem?_append_left (by rw [rowV_size]; exact h), rowV_get _ _ _ h]
theorem stC_fork (x : St) (nv : Value) : (stC x nv)[256]? = some (.bool x.fork) := by
  unfold stC
  rw [Array.getElem?_append_right (by rw [rowV_size]; exact Nat.le_refl _), rowV_size]; rfl
theorem stC_next (x : St) (nv : Value) : (stC x nv)[257]? = some nv := by
  unfold stC
  rw [Array.getElem?_append_right (by rw [rowV_size]; decide), rowV_size]; rfl
theorem state_info : (Try.prog.info? 143).map (fun i => (i.zero, i.size, i.bytes)) = some (some (.agg (stC ⟨fun _ => false, false, []⟩ (.slice none 0 0))), 258, 288) := by kernel_rfl
theorem int_info : (Try.prog.info? 3).map (fun i => (i.zero, i.size, i.bytes)) = some (some (.int .i64 0), 1, 8) := by kernel_rfl
/-- A state and its row. -/
structure SR where
  x : St
  nv : Value
def SR.cells (r : SR) : List Value := (stC r.x r.nv).toList
theorem SR.len (r : SR) : r.cells.length = 258 := by unfold SR.cells; rw [Array.length_toList, stC_size]
theorem sr_len (rs : List SR) : (rs.flatMap SR.cells).length = rs.length * 258 := by
  induction rs with
  | nil => rfl
  | cons f r ih => rw [List.flatMap_cons, List.length_append, ih, List.length_cons, SR.len, Nat.succ_mul, Nat.add_comm]
theorem sr_at : ∀ {rs : List SR} {i : Nat} {f : SR}, rs[i]? = some f → ∀ r, r < 258 → (rs.flatMap SR.cells)[i * 258 + r]? = (stC f.x f.nv)[r]?
  | [], i, f, h, _, _ => by simp at h
  | x :: fs, 0, f, h, r, hr => by
    obtain rfl := Option.some.inj h
    rw [List.flatMap_cons, List.getElem?_append_left (by rw [SR.len]; omega), Nat.zero_mul, Nat.zero_add]
    unfold SR.cells; rw [Array.getElem?_toList]
  | x :: fs, i + 1, f, h, r, hr => by
    rw [List.flatMap_cons, List.getElem?_append_right (by rw [SR.len]; omega), SR.len, show (i + 1) * 258 + r - 258 = i * 258 + r by omega]
    exact sr_at (rs := fs) h r hr
/-- A machine: its top at pp, the slice v of its states. -/
structure MAt (w : World) (pp : Nat) (v : Value) (start steps : Int) (rs : List SR) : Prop where
  top : Blk w pp 107 #[v, .int .i64 start, .int .i64 steps]
  own : w.ownsRow 0 143 258 v rs.length (rs.flatMap SR.cells)
  next : ∀ (q : Nat) (r : SR), rs[q]? = some r → w.ownsRow 0 3 1 r.nv r.x.next.length (r.x.next.map intV)
  apart : ∀ (q : Nat) (r : SR) (b : Nat), rs[q]? = some r → r.nv.ownBlock = some b → b ≠ pp ∧ v.ownBlock ≠ some b
  inj : ∀ (q : Nat) (r : SR) (q' : Nat) (r' : SR) (b : Nat), rs[q]? = some r → rs[q']? = some r' → r.nv.ownBlock = some b → r'.nv.ownBlock = some b → q = q'
  vpp : v.ownBlock ≠ some pp
/-- Its blocks. -/
def MX (pp : Nat) (v : Value) (rs : List SR) (j : Nat) : Prop := j = pp ∨ v.ownBlock = some j ∨ ∃ (q : Nat) (r : SR), rs[q]? = some r ∧ r.nv.ownBlock = some j
/-- A machine of these states, in blocks of X. -/
def Mach (w : World) (X : Nat → Prop) (pp : Nat) (start steps : Int) (S : List St) : Prop := ∃ v rs, rs.map SR.x = S ∧ MAt w pp v start steps rs ∧ ∀ j, MX pp v rs j ↔ X j
section
variable {w w' : World} {X : Nat → Prop} {pp : Nat} {v : Value} {start steps : Int} {rs : List SR} {S : List St}
theorem row_keep {w w' : World} {B : Nat} {e : TypeId} {sz : Nat} {v : Value} {n : Nat} {xs : List Value} (h : w.ownsRow B e sz v n xs) (hk : ∀ b, v.ownBlock = some b → w'.heap[b]? = w.heap[b]?) : w'.ownsRow B e sz v n xs := by
  refine ⟨h.1, ?_⟩
  rcases h.2 with h0 | ⟨g, cap, cur, e, h1, h2, h3⟩
  · exact .inl h0
  · exact .inr ⟨g, cap, cur, e, h1, (hk g (by rw [e]; rfl)).trans h2, h3⟩
theorem MAt.lt (h : MAt w pp v start steps rs) {j : Nat} (hj : MX pp v rs j) : j < w.heap.size := by
  rcases hj with rfl | hj | ⟨q, r, hq, hj⟩
  · exact h.top.lt
  · exact (h.own.lt j hj).2
  · exact ((h.next q r hq).lt j hj).2
theorem MAt.keep (h : MAt w pp v start steps rs) (hk : ∀ b, MX pp v rs b → w'.heap[b]? = w.heap[b]?) : MAt w' pp v start steps rs :=
  ⟨(hk pp (.inl rfl)).trans h.top, row_keep h.own fun b hb => hk b (.inr (.inl hb)), fun q r hq => row_keep (h.next q r hq) fun b hb => hk b (.inr (.inr ⟨q, r, hq, hb⟩)), h.apart, h.inj, h.vpp⟩
theorem MAt.below (h : MAt w pp v start steps rs) (hb : Below w.heap.size w w') : MAt w' pp v start steps rs := h.keep fun b hx => hb.block b (h.lt hx)
theorem Mach.lt (h : Mach w X pp start steps S) : pp < w.heap.size := by obtain ⟨v, rs, _, hm, _⟩ := h; exact hm.lt (.inl rfl)
theorem Mach.old (h : Mach w X pp start steps S) {j : Nat} (hj : X j) : j < w.heap.size := by obtain ⟨v, rs, _, h2, h3⟩ := h; exact h2.lt ((h3 j).2 hj)
theorem Mach.at_ (h : Mach w X pp start steps S) : X pp := by obtain ⟨v, rs, _, h2, h3⟩ := h; exact (h3 pp).1 (.inl rfl)
theorem Mach.keep (h : Mach w X pp start steps S) (hk : ∀ b, X b → b < w.heap.size → w'.heap[b]? = w.heap[b]?) : Mach w' X pp start steps S := by
  obtain ⟨v, rs, h1, h2, h3⟩ := h
  exact ⟨v, rs, h1, h2.keep fun b hb => hk b ((h3 b).1 hb) (h2.lt hb), h3⟩
theorem Mach.below (h : Mach w X pp start steps S) (hb : Below w.heap.size w w') : Mach w' X pp start steps S := h.keep fun b _ hl => hb.block b hl
end
/-- A state's cells where they lie. -/
theorem MAt.cells {w : World} {pp : Nat} {v : Value} {start steps : Int} {rs : List SR} (h : MAt w pp v start steps rs) (hn : rs ≠ []) : ∃ sb c, v = .slice (some ⟨sb, 0, none⟩) rs.length c ∧ rs.length ≤ c ∧ c ≤ maxLen ∧ sb < w.heap.size ∧ sb ≠ pp ∧
    (∀ (q : Nat) (r : SR), rs[q]? = some r → r.nv.ownBlock ≠ some sb) ∧ ∀ (q : Nat) (r : SR) (j : Nat), rs[q]? = some r → j < 258 → w.cell? ⟨sb, q * 258 + j, none⟩ = (stC r.x r.nv)[j]? ∧ w.frozen? ⟨sb, q * 258 + j, none⟩ = false := by
  rcases h.own.2 with ⟨_, h0⟩ | ⟨g, cap, cur, e, _, h2, h3, h4, h5, h6⟩
  · exact absurd (List.eq_nil_of_length_eq_zero h0) hn
  · subst e
    refine ⟨g, cap, rfl, h3, h4, (Array.getElem?_eq_some_iff.1 h2).1, fun e => h.vpp (by rw [e]; rfl), fun q r hq e => (h.apart q r g hq e).2 rfl, fun q r j hq hj => ⟨?_, ?_⟩⟩
    · have hl := (List.getElem?_eq_some_iff.1 hq).1
      rw [cell_of_row w g (q * 258 + j) cur 143 (0, 0) h2, ← sr_at hq j hj, ← Array.getElem?_toList, ← h6, List.getElem?_take_of_lt]
      have : q * 258 + 258 ≤ rs.length * 258 := by rw [← Nat.succ_mul]; exact Nat.mul_le_mul_right _ hl
      omega
    · exact frozen_of_row w g _ cur 143 h2
end Go.Proofs.Ytepfpmnfecehbaa
