/- Machines in memory: states of 258 cells, each with a row of its own of what it goes on to. nfa.Prog.add: a state more. nfa.Prog.add: a state more. -/
import Derived.Test.YtjnhmcgjeljcmaaKn
import Derived.Deep.RegionHeld3
namespace Go.Proofs.Ytjnhmcgjeljcmaa
open Go.RowKit Go.Maps

def intV (z : Nat) : Value := .int .i64 (z : Nat)
/-- A state's cells. -/
def stC (x : St) (nv : Value) : Array Value := rowV 256 (fun j => .bool (x.bytes j)) ++ #[.bool x.fork, nv]
theorem stC_size (x : St) (nv : Value) : (stC x nv).size = 258 := by simp [stC, rowV_size]
theorem stC_byte (x : St) (nv : Value) {j : Nat} (h : j < 256) : (stC x nv)[j]? = some (.bool (x.bytes j)) := by
  unfold stC
  rw [Array.getElem?_append_left (by rw [rowV_size]; exact h), rowV_get _ _ _ h]
theorem stC_fork (x : St) (nv : Value) : (stC x nv)[256]? = some (.bool x.fork) := by
  unfold stC
  rw [Array.getElem?_append_right (by rw [rowV_size]; exact Nat.le_refl _), rowV_size]; rfl
theorem stC_next (x : St) (nv : Value) : (stC x nv)[257]? = some nv := by
  unfold stC
  rw [Array.getElem?_append_right (by rw [rowV_size]; decide), rowV_size]; rfl
theorem state_info : (Try.prog.info? 175).map (fun i => (i.zero, i.size, i.bytes)) = some (some (.agg (stC ⟨fun _ => false, false, []⟩ (.slice none 0 0))), 258, 288) := by kernel_rfl
theorem int_info : (Try.prog.info? 3).map (fun i => (i.zero, i.size, i.bytes)) = some (some (.int .i64 0), 1, 8) := by kernel_rfl
/-- A state and its row. -/
structure SR where
  x : St
  nv : Value
def SR.cells (r : SR) : List Value := (stC r.x r.nv).toList
theorem SR.len (r : SR) : r.cells.length = 258 := by unfold SR.cells; rw [Array.length_toList, stC_size]
theorem sr_len (rs : List SR) : (rs.flatMap SR.cells).length = rs.length * 258 := by
  induction rs with
  | nil => rfl
  | cons f r ih => rw [List.flatMap_cons, List.length_append, ih, List.length_cons, SR.len, Nat.succ_mul, Nat.add_comm]
theorem sr_at : ∀ {rs : List SR} {i : Nat} {f : SR}, rs[i]? = some f → ∀ r, r < 258 → (rs.flatMap SR.cells)[i * 258 + r]? = (stC f.x f.nv)[r]?
  | [], i, f, h, _, _ => by simp at h
  | x :: fs, 0, f, h, r, hr => by
    obtain rfl := Option.some.inj h
    rw [List.flatMap_cons, List.getElem?_append_left (by rw [SR.len]; omega), Nat.zero_mul, Nat.zero_add]
    unfold SR.cells; rw [Array.getElem?_toList]
  | x :: fs, i + 1, f, h, r, hr => by
    rw [List.flatMap_cons, List.getElem?_append_right (by rw [SR.len]; omega), SR.len, show (i + 1) * 258 + r - 258 = i * 258 + r by omega]
    exact sr_at (rs := fs) h r hr
/-- A machine: its top at pp, the slice v of its states. -/
structure MAt (w : World) (pp : Nat) (v : Value) (start steps : Int) (rs : List SR) : Prop where
  top : Blk w pp 151 #[v, .int .i64 start, .int .i64 steps]
  own : w.ownsRow 0 175 258 v rs.length (rs.flatMap SR.cells)
  next : ∀ (q : Nat) (r : SR), rs[q]? = some r → w.ownsRow 0 3 1 r.nv r.x.next.length (r.x.next.map intV)
  apart : ∀ (q : Nat) (r : SR) (b : Nat), rs[q]? = some r → r.nv.ownBlock = some b → b ≠ pp ∧ v.ownBlock ≠ some b
  inj : ∀ (q : Nat) (r : SR) (q' : Nat) (r' : SR) (b : Nat), rs[q]? = some r → rs[q']? = some r' → r.nv.ownBlock = some b → r'.nv.ownBlock = some b → q = q'
  vpp : v.ownBlock ≠ some pp
/-- Its blocks. -/
def MX (pp : Nat) (v : Value) (rs : List SR) (j : Nat) : Prop := j = pp ∨ v.ownBlock = some j ∨ ∃ (q : Nat) (r : SR), rs[q]? = some r ∧ r.nv.ownBlock = some j
/-- A machine of these states, in blocks of X. -/
def Mach (w : World) (X : Nat → Prop) (pp : Nat) (start steps : Int) (S : List St) : Prop := ∃ v rs, rs.map SR.x = S ∧ MAt w pp v start steps rs ∧ ∀ j, MX pp v rs j ↔ X j
section
variable {w w' : World} {X : Nat → Prop} {pp : Nat} {v : Value} {start steps : Int} {rs : List SR} {S : List St}
theorem row_keep {w w' : World} {B : Nat} {e : TypeId} {sz : Nat} {v : Value} {n : Nat} {xs : List Value} (h : w.ownsRow B e sz v n xs) (hk : ∀ b, v.ownBlock = some b → w'.heap[b]? = w.heap[b]?) : w'.ownsRow B e sz v n xs := by
  refine ⟨h.1, ?_⟩
  rcases h.2 with h0 | ⟨g, cap, cur, e, h1, h2, h3⟩
  · exact .inl h0
  · exact .inr ⟨g, cap, cur, e, h1, (hk g (by rw [e]; rfl)).trans h2, h3⟩
theorem MAt.lt (h : MAt w pp v start steps rs) {j : Nat} (hj : MX pp v rs j) : j < w.heap.size := by
  rcases hj with rfl | hj | ⟨q, r, hq, hj⟩
  · exact h.top.lt
  · exact (h.own.lt j hj).2
  · exact ((h.next q r hq).lt j hj).2
theorem MAt.keep (h : MAt w pp v start steps rs) (hk : ∀ b, MX pp v rs b → w'.heap[b]? = w.heap[b]?) : MAt w' pp v start steps rs :=
  ⟨(hk pp (.inl rfl)).trans h.top, row_keep h.own fun b hb => hk b (.inr (.inl hb)), fun q r hq => row_keep (h.next q r hq) fun b hb => hk b (.inr (.inr ⟨q, r, hq, hb⟩)), h.apart, h.inj, h.vpp⟩
theorem MAt.below (h : MAt w pp v start steps rs) (hb : Below w.heap.size w w') : MAt w' pp v start steps rs := h.keep fun b hx => hb.block b (h.lt hx)
theorem Mach.lt (h : Mach w X pp start steps S) : pp < w.heap.size := by obtain ⟨v, rs, _, hm, _⟩ := h; exact hm.lt (.inl rfl)
theorem Mach.old (h : Mach w X pp start steps S) {j : Nat} (hj : X j) : j < w.heap.size := by obtain ⟨v, rs, _, h2, h3⟩ := h; exact h2.lt ((h3 j).2 hj)
theorem Mach.at_ (h : Mach w X pp start steps S) : X pp := by obtain ⟨v, rs, _, h2, h3⟩ := h; exact (h3 pp).1 (.inl rfl)
theorem Mach.keep (h : Mach w X pp start steps S) (hk : ∀ b, X b → b < w.heap.size → w'.heap[b]? = w.heap[b]?) : Mach w' X pp start steps S := by
  obtain ⟨v, rs, h1, h2, h3⟩ := h
  exact ⟨v, rs, h1, h2.keep fun b hb => hk b ((h3 b).1 hb) (h2.lt hb), h3⟩
theorem Mach.below (h : Mach w X pp start steps S) (hb : Below w.heap.size w w') : Mach w' X pp start steps S := h.keep fun b _ hl => hb.block b hl
end
/-- A state's cells where they lie. -/
theorem MAt.cells {w : World} {pp : Nat} {v : Value} {start steps : Int} {rs : List SR} (h : MAt w pp v start steps rs) (hn : rs ≠ []) : ∃ sb c, v = .slice (some ⟨sb, 0, none⟩) rs.length c ∧ rs.length ≤ c ∧ c ≤ maxLen ∧ sb < w.heap.size ∧ sb ≠ pp ∧
    (∀ (q : Nat) (r : SR), rs[q]? = some r → r.nv.ownBlock ≠ some sb) ∧ ∀ (q : Nat) (r : SR) (j : Nat), rs[q]? = some r → j < 258 → w.cell? ⟨sb, q * 258 + j, none⟩ = (stC r.x r.nv)[j]? ∧ w.frozen? ⟨sb, q * 258 + j, none⟩ = false := by
  rcases h.own.2 with ⟨_, h0⟩ | ⟨g, cap, cur, e, _, h2, h3, h4, h5, h6⟩
  · exact absurd (List.eq_nil_of_length_eq_zero h0) hn
  · subst e
    refine ⟨g, cap, rfl, h3, h4, (Array.getElem?_eq_some_iff.1 h2).1, fun e => h.vpp (by rw [e]; rfl), fun q r hq e => (h.apart q r g hq e).2 rfl, fun q r j hq hj => ⟨?_, ?_⟩⟩
    · have hl := (List.getElem?_eq_some_iff.1 hq).1
      rw [cell_of_row w g (q * 258 + j) cur 175 (0, 0) h2, ← sr_at hq j hj, ← Array.getElem?_toList, ← h6, List.getElem?_take_of_lt]
      have : q * 258 + 258 ≤ rs.length * 258 := by rw [← Nat.succ_mul]; exact Nat.mul_le_mul_right _ hl
      omega
    · exact frozen_of_row w g _ cur 175 h2
end Go.Proofs.Ytjnhmcgjeljcmaa
namespace Go.Proofs.Ytjnhmcgjeljcmaa
open Go.RowKit Go.Maps

theorem build_state (x : St) (nv : Value) (W : World) : (Instr.buildSlice 149 1 #[(0, .agg (stC x nv).toList.toArray)]).run Try.prog W = .ok (.slice (some ⟨W.heap.size, 0, none⟩) 1 1) (W.alloc (.cells (stC x nv) 175)) := by kernel_rfl
theorem build_setS (f : Nat → Bool) (ns : List Nat) (A : Option Addr) (n c : Nat) (W : World) : (Instr.build 175 #[(0, .agg (rowV 256 fun j => .bool (f j))), (2, .slice A n c)]).run Try.prog W = .ok (.agg (stC ⟨f, false, ns⟩ (.slice A n c))) W := by kernel_rfl
theorem build_fork (W : World) : (Instr.build 175 #[(1, .bool true)]).run Try.prog W = .ok (.agg (stC ⟨fun _ => false, true, []⟩ (.slice none 0 0))) W := by kernel_rfl
end Go.Proofs.Ytjnhmcgjeljcmaa
namespace Go.Proofs.Ytjnhmcgjeljcmaa
open Go.RowKit Go.Maps

theorem build_stateA (x : St) (nv : Value) (W : World) : (Instr.buildSlice 149 1 #[(0, .agg (stC x nv))]).run Try.prog W = .ok (.slice (some ⟨W.heap.size, 0, none⟩) 1 1) (W.alloc (.cells (stC x nv) 175)) := by
  have := build_state x nv W
  rwa [Array.toArray_toList] at this
/-- A buildSlice of one at a step of a region that draws its order, its run known. -/
theorem step_build_run {w w' : World} {ops : Array Oper} {o : Oper} {a : Act} {K : Act → World → Prop} {Q : Exit → Act → World → Prop} {E : Prop} (hgd : o.guard = none) (t : TypeId) (s : Operand)
    (ho : o.op = .buildSlice t 1 #[(0, s)]) (v r : Value) (hs : a.eval s = v)
    (hrun : (Instr.buildSlice t 1 #[(0, v)]).run Try.prog w = .ok r w') (h : K (a.put o.dst r) w') : if Region.wanted o (yielded ops a.tmps) = true then Oper.wp Try.prog o a w K Q else E := by
  have hw : Region.wanted o (yielded ops a.tmps) = true := by simp [Region.wanted, hgd]
  rw [if_pos hw]
  unfold Oper.wp execOp
  simp only [ho, Sem.run_bind, Sem.run_pure, Result.andThen_ok, List.map_toArray, List.map_cons, List.map_nil, hs, hrun]
  exact h
section
variable {w w' : World} {X Y : Nat → Prop} {pp : Nat} {v : Value} {start steps : Int} {rs : List SR} {S : List St}
theorem MAt.push (ty : TypeId) (h : MAt w pp v start steps rs) {tb : Nat} {x : St} {nv : Value} (ht : Blk w tb 175 (stC x nv)) (hn : w.ownsRow 0 3 1 nv x.next.length (x.next.map intV))
    (hna : ∀ b, nv.ownBlock = some b → ¬ MX pp v rs b) (hl : rs.length + 1 ≤ 100000) :
    ∃ A' c' w', (Builtin.append_ #[149, 149] ty #[v, .slice (some ⟨tb, 0, none⟩) 1 1]).run Try.prog w = .ok (.slice A' (rs.length + 1) c') w' ∧ Blk w' pp 151 #[v, .int .i64 start, .int .i64 steps] ∧
      MAt (w'.setCell ⟨pp, 0, none⟩ (.slice A' (rs.length + 1) c')) pp (.slice A' (rs.length + 1) c') start steps (rs ++ [⟨x, nv⟩]) ∧ w.grownBy w' v.ownBlock ∧ ((Value.slice A' (rs.length + 1) c').ownBlock = v.ownBlock ∨ (Value.slice A' (rs.length + 1) c').ownBlock = some w.heap.size) := by
  obtain ⟨i0, hi0, hz0, hz1, hz2⟩ := info_parts state_info
  obtain ⟨v', w', h1, h2, h3, _, h5⟩ := run_append_own_at (P := Try.prog) w 0 149 ty 175 i0 _ 258 288 Try.underlying149 hi0 hz0 hz1 hz2 (stC_size _ _) (by decide) v rs.length (rs.flatMap SR.cells) h.own ⟨tb, 0, none⟩ 1 1 (SR.cells ⟨x, nv⟩) (by rw [SR.len])
    (fun j u hu => by
      have e : (⟨tb, 0, none⟩ : Addr).add j = ⟨tb, j, none⟩ := by unfold Addr.add; split <;> simp_all
      unfold SR.cells at hu
      rw [e, ht.cell, ← Array.getElem?_toList]; exact hu)
    (fun u hu => by
      unfold SR.cells stC at hu
      rw [Array.mem_toList_iff, Array.mem_append] at hu
      rcases hu with hu | hu
      · exact Array.all_eq_true_iff_forall_mem.1 (rowV_one 256 _ fun _ => rfl) u hu
      · rcases hn.2 with ⟨e, _⟩ | ⟨_, _, _, e, _⟩ <;> (subst e; simp at hu; rcases hu with rfl | rfl <;> rfl)) (by unfold maxLen; omega) (by omega) (Nat.zero_le _)
  obtain ⟨A', c', e⟩ : ∃ A' c', v' = .slice A' (rs.length + 1) c' := by
    rcases h2.2 with ⟨_, h0⟩ | ⟨g, cap, _, e, _⟩
    · omega
    · exact ⟨_, _, e⟩
  subst e
  have hnew : ∀ b, (Value.slice A' (rs.length + 1) c').ownBlock = some b → v.ownBlock = some b ∨ b = w.heap.size := fun b hb => by
    rcases h5 with h5 | h5
    · left; rw [← h5]; exact hb
    · right; rw [h5] at hb; exact (Option.some.inj hb).symm
  have hpl := h.top.lt
  have hvp : (Value.slice A' (rs.length + 1) c').ownBlock ≠ some pp := fun e => by
    rcases hnew pp e with h6 | h6
    · exact h.vpp h6
    · omega
  have htop : Blk w' pp 151 #[v, .int .i64 start, .int .i64 steps] := (h3.block pp hpl (fun e => h.vpp e.symm)).trans h.top
  refine ⟨A', c', w', h1, htop, ?_, h3, h5⟩
  have hrow : ∀ (q : Nat) (r : SR), (rs ++ [⟨x, nv⟩])[q]? = some r → (q < rs.length ∧ rs[q]? = some r) ∨ (q = rs.length ∧ r = ⟨x, nv⟩) := fun q r hq => by
    rcases Nat.lt_trichotomy q rs.length with hlt | he | hgt
    · rw [List.getElem?_append_left hlt] at hq; exact .inl ⟨hlt, hq⟩
    · subst he; simp at hq; exact .inr ⟨rfl, hq.symm⟩
    · rw [List.getElem?_eq_none (by simp; omega)] at hq; cases hq
  have hstay : ∀ b, b < w.heap.size → v.ownBlock ≠ some b → b ≠ pp → (w'.setCell ⟨pp, 0, none⟩ (.slice A' (rs.length + 1) c')).heap[b]? = w.heap[b]? := fun b hb hv hp =>
    (Below.heap_setCell w' _ _ b hp).trans (h3.block b hb (fun e => hv e.symm))
  have hnb : ∀ b, nv.ownBlock = some b → b < w.heap.size ∧ b ≠ pp ∧ v.ownBlock ≠ some b ∧ ∀ (q : Nat) (r : SR), rs[q]? = some r → r.nv.ownBlock ≠ some b := fun b hb =>
    ⟨(hn.lt b hb).2, fun e => hna b hb (.inl e), fun e => hna b hb (.inr (.inl e)), fun q r hq e => hna b hb (.inr (.inr ⟨q, r, hq, e⟩))⟩
  refine ⟨Blk.set_ htop 0 _, ?_, fun q r hq => ?_, fun q r b hq hb => ?_, fun q r q' r' b hq hq' hb hb' => ?_, hvp⟩
  · have : (w'.setCell ⟨pp, 0, none⟩ (.slice A' (rs.length + 1) c')).ownsRow 0 175 258 (.slice A' (rs.length + 1) c') (rs.length + 1) (rs.flatMap SR.cells ++ SR.cells ⟨x, nv⟩) := row_keep h2 fun b hb => Below.heap_setCell w' _ _ b (fun e => hvp (by have e' : b = pp := e; rw [← e']; exact hb))
    rw [List.length_append, List.flatMap_append]
    simpa using this
  · rcases hrow q r hq with ⟨_, hq⟩ | ⟨_, rfl⟩
    · exact row_keep (h.next q r hq) fun b hb => hstay b ((h.next q r hq).lt b hb).2 (h.apart q r b hq hb).2 (h.apart q r b hq hb).1
    · exact row_keep hn fun b hb => hstay b (hnb b hb).1 (hnb b hb).2.2.1 (hnb b hb).2.1
  · rcases hrow q r hq with ⟨_, hq⟩ | ⟨_, rfl⟩
    · refine ⟨(h.apart q r b hq hb).1, fun e => ?_⟩
      rcases hnew b e with h6 | h6
      · exact (h.apart q r b hq hb).2 h6
      · have := ((h.next q r hq).lt b hb).2; omega
    · refine ⟨(hnb b hb).2.1, fun e => ?_⟩
      rcases hnew b e with h6 | h6
      · exact (hnb b hb).2.2.1 h6
      · have := (hnb b hb).1; omega
  · rcases hrow q r hq with ⟨hl1, hq⟩ | ⟨e1, rfl⟩ <;> rcases hrow q' r' hq' with ⟨hl2, hq'⟩ | ⟨e2, rfl⟩
    · exact h.inj q r q' r' b hq hq' hb hb'
    · exact absurd hb ((hnb b hb').2.2.2 q r hq)
    · exact absurd hb' ((hnb b hb).2.2.2 q' r' hq')
    · omega
end
set_option maxHeartbeats 400000 in
set_option maxRecDepth 100000 in
theorem add_any {w : World} {X : Nat → Prop} {pp : Nat} {start steps : Int} {S : List St} (h : Mach w X pp start steps S) (x : St) (nv : Value) (hn : w.ownsRow 0 3 1 nv x.next.length (x.next.map intV)) (hna : ∀ b, nv.ownBlock = some b → ¬ X b) (hl : S.length + 1 ≤ 100000) :
    Calls Try.prog 122 #[.pointer (some ⟨pp, 0, none⟩), .agg (stC x nv)] w fun e w' => e = .returned (.int .i64 (S.length : Nat)) ∧ ∃ X', Mach w' X' pp start steps (S ++ [x]) ∧ (∀ j, X' j → X j ∨ nv.ownBlock = some j ∨ w.heap.size ≤ j) ∧ Kept X w w' := by
  obtain ⟨v, rs, rfl, hm, hXX⟩ := h
  have hX := fun j hj => (hXX j).1 hj
  clear hXX
  rw [List.length_map] at hl ⊢
  have hpl := hm.top.lt
  have mixed : Try.prog.follows .mixedOrders = true := by kernel_rfl
  have hsz : (Try.prog.info? 175).map (·.size) = some (stC x nv).toList.length := by rw [Array.length_toList, stC_size]; kernel_rfl
  obtain ⟨W0, hW0⟩ : ∃ W0, W0 = w.alloc (.cells (stC x nv) 175) := ⟨_, rfl⟩
  have b0 : Below w.heap.size w W0 := by rw [hW0]; exact (Below.refl _ w).alloc (Nat.le_refl _) _
  have k0 : Blk W0 w.heap.size 175 (stC x nv) := by rw [hW0]; exact Blk.new w _ _
  have hs0 : W0.heap.size = w.heap.size + 1 := by rw [hW0]; simp
  have hm0 := hm.below b0
  have hn0 : W0.ownsRow 0 3 1 nv x.next.length (x.next.map intV) := row_keep hn fun b hb => b0.block b (hn.lt b hb).2
  have p0 : W0.cell? ⟨pp, 0, none⟩ = some v := hm0.top.cell 0
  -- the temporary
  obtain ⟨W2, hW2⟩ : ∃ W2, W2 = W0.drew.alloc (.cells (stC x nv) 175) := ⟨_, rfl⟩
  have b2 : Below W0.heap.size W0 W2 := by
    rw [hW2]
    have := (Below.refl W0.heap.size W0).alloc (Nat.le_refl _) (.cells (stC x nv) 175)
    exact ⟨this.os, this.tape, this.output, this.size, this.block⟩
  have k2 : Blk W2 (w.heap.size + 1) 175 (stC x nv) := by rw [hW2, ← hs0]; exact Blk.new W0.drew _ _
  have k20 : Blk W2 w.heap.size 175 (stC x nv) := k0.below b2 (by omega)
  have hs2 : W2.heap.size = w.heap.size + 2 := by rw [hW2]; simp [hs0]
  have hm2 := hm0.below b2
  have hn2 : W2.ownsRow 0 3 1 nv x.next.length (x.next.map intV) := row_keep hn0 fun b hb => b2.block b (hn0.lt b hb).2
  have p2 : W2.cell? ⟨pp, 0, none⟩ = some v := hm2.top.cell 0
  obtain ⟨A', c', W3, hrun, htop3, hm3, hg3, hb3⟩ := hm2.push 149 k2 hn2 (fun b hb hx => hna b hb (hX b hx)) (by omega)
  have k3 : Blk W3 w.heap.size 175 (stC x nv) := k20.grown hg3 (fun e => by have := (hm2.own.lt _ e.symm).2; have := hm.own.lt _ e.symm; omega)
  obtain ⟨p3, -, -, f3, -, -⟩ := blk3 htop3
  have hne : pp ≠ w.heap.size := by omega
  have HRUN := Lib.hid hrun
  have K0 := Lib.hid k0
  have K20 := Lib.hid k20
  have K3 := Lib.hid k3
  have HM3 := Lib.hid hm3
  have HFIN := Lib.hid (show (∃ X', Mach (W3.setCell ⟨pp, 0, none⟩ (.slice A' (rs.length + 1) c')) X' pp start steps (rs.map SR.x ++ [x]) ∧ (∀ j, X' j → X j ∨ nv.ownBlock = some j ∨ w.heap.size ≤ j) ∧ Kept X w (W3.setCell ⟨pp, 0, none⟩ (.slice A' (rs.length + 1) c'))) from by
    have hnewb : ∀ b, (Value.slice A' (rs.length + 1) c').ownBlock = some b → v.ownBlock = some b ∨ w.heap.size ≤ b := fun b hb => by
      rcases hb3 with h5 | h5
      · left; rw [← h5]; exact hb
      · right; rw [h5] at hb; have := Option.some.inj hb; omega
    have hk1 : Kept X w W2 := ⟨b2.os.trans b0.os, b2.tape.trans b0.tape, b2.output.trans b0.output, by omega, fun j hj _ => (b2.block j (by omega)).trans (b0.block j hj)⟩
    have hk2 : Kept X w W3 := hk1.grown hg3 (fun j hj => .inl (hX j (.inr (.inl hj))))
    refine ⟨MX pp (.slice A' (rs.length + 1) c') (rs ++ [⟨x, nv⟩]), ⟨_, rs ++ [⟨x, nv⟩], by simp, hm3, fun _ => Iff.rfl⟩, fun j hj => ?_, hk2.set_ (.inl (hX pp (.inl rfl))) _⟩
    rcases hj with rfl | hj | ⟨q, r, hq, hj⟩
    · exact .inl (hX _ (.inl rfl))
    · rcases hnewb j hj with h6 | h6
      · exact .inl (hX j (.inr (.inl h6)))
      · exact .inr (.inr h6)
    · rcases Nat.lt_or_ge q rs.length with hlt | hge
      · rw [List.getElem?_append_left hlt] at hq
        exact .inl (hX j (.inr (.inr ⟨q, r, hq, hj⟩)))
      · rw [List.getElem?_append_right hge] at hq
        have hr : r = ⟨x, nv⟩ := by
          rcases Nat.eq_zero_or_pos (q - rs.length) with h0 | h0
          · rw [h0] at hq; simp at hq; exact hq.symm
          · rw [List.getElem?_eq_none (by simp; omega)] at hq; cases hq
        subst hr
        exact .inr (.inl hj))
  have hlr : ((rs.length : Int) + 1 - 1) = (rs.length : Int) := by omega
  clear hm0 hn0 hm2 hn2 hrun htop3 hm3 hg3 hb3 hm hn hna hX k0 k2 k20 k3 b0 b2
  have hsd : W0.drew.heap.size = w.heap.size + 1 := hs0
  have HB := Lib.hid (by have := build_stateA x nv W0.drew; rw [hsd, ← hW2] at this; exact this)
  have HBL := Lib.hid (by have := build_state x nv W0.drew; rw [hsd, ← hW2] at this; exact this)
  clear hsd
  have hS2 := K20.out.range_
  have hS3 := K3.out.range_
  have hS4 : (W3.setCell ⟨pp, 0, none⟩ (.slice A' (rs.length + 1) c')).rangeAt w.heap.size 0 (stC x nv).toList := (K3.out.far (Ne.symm hne) _).range_
  have p4 : (W3.setCell ⟨pp, 0, none⟩ (.slice A' (rs.length + 1) c')).cell? ⟨pp, 0, none⟩ = some (.slice A' (rs.length + 1) c') := World.cell?_setCell_same W3 _ _ p3
  clear hW2
  go_enter Try.func122, Try.ntmps122
  go_wp2_with fail
  rw [← hW0]
  clear hW0
  refine wp_region_held_drew (S := fun V => V.rangeAt w.heap.size 0 (stC x nv).toList) mixed ((World.rangeAt_drew _ _ _ _).2 K0.out.range_) (fun hS => ?_)
  refine wpAnyH_take (i := 0) (v := .pointer (some ⟨pp, 0, none⟩)) rfl (by kernel_rfl) (by kernel_rfl) (by kernel_rfl) (fun _ _ _ h => h) (Or.inl ⟨by rfl, fun W hW => by go_simp⟩) hS ?_
  refine wpAnyH_take (i := 1) (v := .pointer (some ⟨pp, 0, none⟩)) rfl (by kernel_rfl) (by kernel_rfl) (by kernel_rfl) (fun _ _ _ h => h) (Or.inl ⟨by rfl, fun W hW => by go_simp⟩) hS ?_
  refine wpAnyH_take (i := 2) (v := .pointer (some ⟨pp, 0, none⟩)) rfl (by kernel_rfl) (by kernel_rfl) (by kernel_rfl) (fun _ _ _ h => h) (Or.inl ⟨by rfl, fun W hW => by go_simp⟩) hS ?_
  refine wpAnyH_take (i := 3) (v := .pointer (some ⟨pp, 0, none⟩)) rfl (by kernel_rfl) (by kernel_rfl) (by kernel_rfl) (fun _ _ _ h => h) (Or.inl ⟨by rfl, fun W hW => by go_simp⟩) hS ?_
  refine wpAnyH_take (i := 5) (v := .agg (stC x nv).toList.toArray) rfl (by kernel_rfl) (by kernel_rfl) (by kernel_rfl) (fun _ _ _ h => h) (yieldsIf_load_mid (by rfl) 175 (.tmp 3) rfl w.heap.size 0 rfl (stC x nv).toList _ (fun w hw => hw) Try.underlying175 rfl hsz) hS ?_
  refine wpAnyH_ready (rs := [4, 6]) (by kernel_rfl) (by simp) ?_
  refine AllReadyH.cons rfl (fun K hK => ?_) (AllReadyH.cons rfl (fun K hK => ?_) AllReadyH.nil)
  · go_simp
    refine hK.out _ _ hS (fun hS => ?_)
    clear hK K
    refine wpAnyH_ready (rs := [6]) (by kernel_rfl) (by simp) ?_
    refine AllReadyH.cons rfl (fun K hK => ?_) AllReadyH.nil
    refine step_build_run rfl 149 (.tmp 10) rfl _ _ rfl HB.out ?_
    refine hK.out _ _ hS2 (fun hS => ?_)
    clear hK K
    try simp only [Act.put, List.getElem_toArray, List.getElem_cons_zero, List.getElem_cons_succ, List.setIfInBounds_toArray, List.set_cons_zero, List.set_cons_succ]
    refine wpAnyH_ready (rs := [7]) (by kernel_rfl) (by simp) ?_
    refine AllReadyH.cons rfl (fun K hK => ?_) AllReadyH.nil
    refine step_append_run rfl (.tmp 9) (.tmp 11) 149 rfl _ _ _ rfl rfl HRUN.out ?_
    refine hK.out _ _ hS3 (fun hS => ?_)
    clear hK K
    try simp only [Act.put, List.getElem_toArray, List.getElem_cons_zero, List.getElem_cons_succ, List.setIfInBounds_toArray, List.set_cons_zero, List.set_cons_succ]
    refine wpAnyH_take (i := 8) (v := .pointer (some ⟨pp, 0, none⟩)) rfl (by kernel_rfl) (by kernel_rfl) (by kernel_rfl) (fun _ _ _ h => h) (Or.inl ⟨by rfl, fun W hW => by go_simp⟩) hS ?_
    refine wpAnyH_take (i := 9) (v := .pointer (some ⟨pp, 0, none⟩)) rfl (by kernel_rfl) (by kernel_rfl) (by kernel_rfl) (fun _ _ _ h => h) (Or.inl ⟨by rfl, fun W hW => by go_simp⟩) hS ?_
    refine wpAnyH_ready (rs := [10]) (by kernel_rfl) (by simp) ?_
    refine AllReadyH.cons rfl (fun K hK => ?_) AllReadyH.nil
    go_simp
    refine hK.out _ _ hS4 (fun hS => ?_)
    clear hK K
    refine wpAnyH_done (by kernel_rfl) ?_ _
    go_wp2
    go_ret
    exact ⟨rfl, HFIN.out⟩
  · refine step_build_run rfl 149 (.tmp 10) rfl _ _ rfl HBL.out ?_
    refine hK.out _ _ hS2 (fun hS => ?_)
    clear hK K
    try simp only [Act.put, List.getElem_toArray, List.getElem_cons_zero, List.getElem_cons_succ, List.setIfInBounds_toArray, List.set_cons_zero, List.set_cons_succ]
    refine wpAnyH_ready (rs := [4]) (by kernel_rfl) (by simp) ?_
    refine AllReadyH.cons rfl (fun K hK => ?_) AllReadyH.nil
    go_simp
    refine hK.out _ _ hS2 (fun hS => ?_)
    clear hK K
    refine wpAnyH_ready (rs := [7]) (by kernel_rfl) (by simp) ?_
    refine AllReadyH.cons rfl (fun K hK => ?_) AllReadyH.nil
    refine step_append_run rfl (.tmp 9) (.tmp 11) 149 rfl _ _ _ rfl rfl HRUN.out ?_
    refine hK.out _ _ hS3 (fun hS => ?_)
    clear hK K
    try simp only [Act.put, List.getElem_toArray, List.getElem_cons_zero, List.getElem_cons_succ, List.setIfInBounds_toArray, List.set_cons_zero, List.set_cons_succ]
    refine wpAnyH_take (i := 8) (v := .pointer (some ⟨pp, 0, none⟩)) rfl (by kernel_rfl) (by kernel_rfl) (by kernel_rfl) (fun _ _ _ h => h) (Or.inl ⟨by rfl, fun W hW => by go_simp⟩) hS ?_
    refine wpAnyH_take (i := 9) (v := .pointer (some ⟨pp, 0, none⟩)) rfl (by kernel_rfl) (by kernel_rfl) (by kernel_rfl) (fun _ _ _ h => h) (Or.inl ⟨by rfl, fun W hW => by go_simp⟩) hS ?_
    refine wpAnyH_ready (rs := [10]) (by kernel_rfl) (by simp) ?_
    refine AllReadyH.cons rfl (fun K hK => ?_) AllReadyH.nil
    go_simp
    refine hK.out _ _ hS4 (fun hS => ?_)
    clear hK K
    refine wpAnyH_done (by kernel_rfl) ?_ _
    go_wp2
    go_ret
    exact ⟨rfl, HFIN.out⟩
end Go.Proofs.Ytjnhmcgjeljcmaa
