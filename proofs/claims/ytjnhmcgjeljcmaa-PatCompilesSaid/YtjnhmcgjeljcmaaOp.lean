/- nfa's meet: all that is held meets a byte. -/
import Derived.Test.YtjnhmcgjeljcmaaOo
import Derived.StillTailTactics
namespace Go.Proofs.Ytjnhmcgjeljcmaa
open Go.RowKit Go.Maps

section
variable {M : List St} {s : List UInt8} {P : Nat → Prop} {start at_ i : Nat} {V W : WS}
theorem MInvW.clo (hM : MOk M) (h : MInvW M s at_ V i W) (q r : Nat) (hq : W.seen[q]? = some (at_ + 1 + 1)) (hk : Fk M q r) : W.seen[r]? = some (at_ + 1 + 1) := by
  have hql : q < M.length := by have := (List.getElem?_eq_some_iff.1 hq).1; rw [h.len] at this; exact this
  have hrl : r < M.length := by obtain ⟨_, x, hx, _, hm⟩ := hk; exact (hM.2 q x hx).1 r hm
  obtain ⟨x, n, h1, h2, h3⟩ := (h.mark q hql).1 hq
  exact (h.mark r hrl).2 ⟨x, n, h1, h2, h3.snoc hk⟩
theorem MInvW.unfound (h : MInvW M s at_ V i W) (hf : W.found = false) : V.found = false ∧ W.frm = V.frm ∧ W.to = V.to := by
  rcases h.over with ⟨_, c, a, b⟩ | ⟨a, _⟩
  · exact ⟨c.symm.trans hf, a, b⟩
  · rw [hf] at a; cases a
theorem MInvW.few (h : MInvW M s at_ V i W) : W.held.length ≤ M.length := by
  have h1 : (W.held.map Prod.snd).Nodup := by
    rw [List.Nodup, List.pairwise_map]
    exact h.sort.imp fun hxy => hxy.2
  have := nodup_le M.length _ h1 (fun x hx => by
    obtain ⟨y, hy, rfl⟩ := List.mem_map.1 hx
    obtain ⟨_, _, _, _, _, _, _, hw⟩ := h.sound y hy
    obtain ⟨_, x, hx, _⟩ := hw
    exact (List.getElem?_eq_some_iff.1 hx).1)
  rwa [List.length_map] at this
end
/-- A walk, its spare row too, in just the blocks of Z. -/
def WkS (w : World) (Z : Nat → Prop) (wp pp : Nat) (W : WS) : Prop := ∃ Zr v3 k xs, Wk w Zr wp pp v3 W [] ∧ w.ownsRow 0 177 2 v3 k xs ∧ (∀ b, v3.ownBlock = some b → ¬ Zr b) ∧ ∀ j, (Zr j ∨ v3.ownBlock = some j) ↔ Z j
/-- What meet leaves. -/
def MeetPost (w : World) (X Z : Nat → Prop) (wp pp : Nat) (start : Int) (steps : Nat) (S : List St) (s : List UInt8) (P : Nat → Prop) (at_ : Nat) (W : WS) (e : Ending) (w' : World) : Prop :=
  e = .returned (.tuple #[]) ∧ ∃ Z' W' steps', WkS w' Z' wp pp W' ∧ Mach w' X pp start ((steps' : Nat) : Int) S ∧ HInv S s start.toNat P (at_ + 1) W' ∧ steps' ≤ steps + S.length ∧ (∀ j, Z' j → Z j ∨ w.heap.size ≤ j) ∧ Kept (fun j => Z j ∨ j = pp) w w' ∧ (W'.found = false → W.found = false ∧ W'.frm = W.frm ∧ W'.to = W.to)
theorem Mach.setSteps {w : World} {X : Nat → Prop} {pp : Nat} {start steps steps' : Int} {S : List St} (h : Mach w X pp start steps S) : Mach (w.setCell ⟨pp, 2, none⟩ (.int .i64 steps')) X pp start steps' S := by
  obtain ⟨v, rs, h1, h2, h3⟩ := h
  have hk : ∀ b, b ≠ pp → (w.setCell ⟨pp, 2, none⟩ (.int .i64 steps')).heap[b]? = w.heap[b]? := fun b hb => Below.heap_setCell w _ _ b hb
  exact ⟨v, rs, h1, ⟨h2.top.set_ 2 _, row_keep h2.own fun b hb => hk b (fun e => h2.vpp (e ▸ hb)), fun q r hq => row_keep (h2.next q r hq) fun b hb => hk b (h2.apart q r b hq hb).1, h2.apart, h2.inj, h2.vpp⟩, h3⟩
/-- A piece of a row. -/
theorem pc_at {w : World} {A : Option Addr} {n c : Nat} {ps : List (Nat × Nat)} (h : w.ownsRow 0 177 2 (.slice A n c) n (ps.flatMap pcC)) (hl : ps.length = n) {i : Nat} {p : Nat × Nat} (hp : ps[i]? = some p) : ∃ g, A = some ⟨g, 0, none⟩ ∧ w.cell? ⟨g, i * 2, none⟩ = some (.int .i64 (p.1 : Nat)) ∧ w.cell? ⟨g, i * 2 + 1, none⟩ = some (.int .i64 (p.2 : Nat)) := by
  have hlt := (List.getElem?_eq_some_iff.1 hp).1
  rcases h.2 with ⟨_, h0⟩ | ⟨g, cap, cur, e, _, h2, h3, _, _, h6⟩
  · omega
  injection e with e1 _ e3
  subst e1 e3
  have key : ∀ (ps : List (Nat × Nat)) (i : Nat) (p : Nat × Nat), ps[i]? = some p → (ps.flatMap pcC)[i * 2]? = some (intV p.1) ∧ (ps.flatMap pcC)[i * 2 + 1]? = some (intV p.2) := by
    intro ps
    induction ps with
    | nil => intro i p h; cases h
    | cons a ps ih =>
      intro i p h
      match i, h with
      | 0, h => obtain rfl := Option.some.inj h; exact ⟨rfl, rfl⟩
      | i + 1, h =>
        have := ih i p h
        rw [List.flatMap_cons, List.getElem?_append_right (by show 2 ≤ _; omega), List.getElem?_append_right (by show 2 ≤ _; omega)]
        show (ps.flatMap pcC)[(i + 1) * 2 - 2]? = _ ∧ (ps.flatMap pcC)[(i + 1) * 2 + 1 - 2]? = _
        rw [show (i + 1) * 2 - 2 = i * 2 by omega, show (i + 1) * 2 + 1 - 2 = i * 2 + 1 by omega]
        exact this
  obtain ⟨k1, k2⟩ := key ps i p hp
  refine ⟨g, rfl, ?_, ?_⟩
  · rw [cell_of_row w g _ cur 177 (0, 0) h2, ← Array.getElem?_toList]
    rw [← h6, List.getElem?_take_of_lt (by omega)] at k1
    exact k1
  · rw [cell_of_row w g _ cur 177 (0, 0) h2, ← Array.getElem?_toList]
    rw [← h6, List.getElem?_take_of_lt (by omega)] at k2
    exact k2
theorem Wk.set3 {w : World} {Z : Nat → Prop} {wp pp : Nat} {v3 v3' : Value} {W : WS} {st : List Nat} (h : Wk w Z wp pp v3 W st) : Wk (w.setCell ⟨wp, 3, none⟩ v3') Z wp pp v3' W st := by
  obtain ⟨qb, vh, vu, h1, h2⟩ := h
  have hfar : ∀ b, b ≠ wp → (w.setCell ⟨wp, 3, none⟩ v3').heap[b]? = w.heap[b]? := fun b hb => Below.heap_setCell w _ _ b hb
  exact ⟨qb, vh, vu, ⟨h1.top.set_ 3 _, (hfar qb h1.q).trans h1.seen, row_keep h1.held fun b hb => hfar b (h1.h b hb).1, row_keep h1.unf fun b hb => hfar b (h1.u b hb).1, h1.q, h1.h, h1.u⟩, h2⟩
theorem Wk.top_ {w : World} {Z : Nat → Prop} {wp pp : Nat} {v3 : Value} {W : WS} {st : List Nat} (h : Wk w Z wp pp v3 W st) : ∃ qb vh vu, Blk w wp 157 #[.pointer (some ⟨pp, 0, none⟩), .slice (some ⟨qb, 0, none⟩) W.seen.length W.seen.length, vh, v3, .bool W.found, .int .i64 (W.frm : Nat), .int .i64 (W.to : Nat), vu] ∧ Z wp := by
  obtain ⟨qb, vh, vu, h1, h2⟩ := h
  exact ⟨qb, vh, vu, h1.top, (h2 wp).1 (.inl rfl)⟩
set_option maxHeartbeats 4000000 in
set_option maxRecDepth 100000 in
theorem meet_any {w : World} {X Z : Nat → Prop} {wp pp : Nat} {steps start : Nat} {S : List St} {W : WS} {s : List UInt8} {P : Nat → Prop} {at_ : Nat} (hm : Mach w X pp (start : Nat) (steps : Nat) S) (hok : MOk S) (hwk : WkS w Z wp pp W) (hd : ∀ j, X j → ¬ Z j) (hV : HInv S s start P at_ W) (hP : ∀ f, P f → f ≤ at_)
    (b : UInt8) (hb : s[at_]? = some b) (hat : at_ + 1 ≤ 1000000000000) (he : edgesM S ≤ 100000) (hS : S.length ≤ 100000) (hst : steps + 200000 ≤ 4611686018427387904) :
    Calls Try.prog 75 #[.pointer (some ⟨wp, 0, none⟩), .int .u8 (b.toNat : Nat), .int .i64 ((at_ : Int) + 1)] w (MeetPost w X Z wp pp (start : Nat) steps S s P at_ W) := by
  obtain ⟨Zr0, v3, k3, xs3, ⟨qb0, vh, vu0, hk, hZr⟩, h3, h3z, hZ⟩ := hwk
  obtain ⟨A3, c3, rfl, hc3, hm3⟩ := row_form h3
  obtain ⟨Ah, ch, rfl, hch, hmh⟩ := row_form hk.held
  have hXl : ∀ j, X j → j < w.heap.size := fun j hj => hm.old hj
  have hXpp := hm.at_
  have hSl : 0 < S.length := hok.1
  have hfew := hV.few
  obtain ⟨t0, t1, t2, t3, t4, t5, t6, t7, f2, f3, -⟩ := wk_cells hk.top
  have hwl := hk.top.lt
  -- the new row's beginning
  have hv3 : ∀ g, (Value.slice A3 k3 c3).ownBlock = some g → g ≠ wp ∧ g ≠ qb0 ∧ (Value.slice Ah W.held.length ch).ownBlock ≠ some g ∧ vu0.ownBlock ≠ some g := fun g hg => by
    have hn := h3z g hg
    have hn2 : ¬ ZX wp qb0 (Value.slice Ah W.held.length ch) vu0 g := fun h => hn ((hZr g).1 h)
    exact ⟨fun e => hn2 (.inl e), fun e => hn2 (.inr (.inl e)), fun e => hn2 (.inr (.inr (.inl e))), fun e => hn2 (.inr (.inr (.inr e)))⟩
  have hob : (Value.slice A3 0 c3).ownBlock = (Value.slice A3 k3 c3).ownBlock := by cases A3 <;> rfl
  have hfar1 : ∀ b, b ≠ wp → (w.setCell ⟨wp, 2, none⟩ (.slice A3 0 c3)).heap[b]? = w.heap[b]? := fun b hb => Below.heap_setCell w _ _ b hb
  have hk1 : WkT (w.setCell ⟨wp, 2, none⟩ (.slice A3 0 c3)) wp qb0 pp (.slice A3 0 c3) (.slice A3 k3 c3) vu0 ⟨W.seen, [], W.found, W.frm, W.to⟩ [] := by
    refine ⟨hk.top.set_ 2 _, (hfar1 qb0 hk.q).trans hk.seen, ?_, row_keep hk.unf fun b hb => hfar1 b (hk.u b hb).1, hk.q, fun b hb => ?_, hk.u⟩
    · have := own_take h3 (Nat.zero_le k3)
      rw [Nat.zero_mul, List.take_zero] at this
      exact row_keep this fun b hb => hfar1 b (hv3 b (hob ▸ hb)).1
    · have := hv3 b (hob ▸ hb); exact ⟨this.1, this.2.1, this.2.2.2⟩
  have hmet : (w.setCell ⟨wp, 2, none⟩ (.slice A3 0 c3)).ownsRow 0 177 2 (.slice Ah W.held.length ch) W.held.length (W.held.flatMap pcC) := row_keep hk.held fun b hb => hfar1 b (hk.h b hb).1
  have hZw : Z wp := (hZ wp).1 (.inl ((hZr wp).1 (.inl rfl)))
  have hppz : ¬ Z pp := hd pp hXpp
  have HM1 := Lib.hid (show Mach (w.setCell ⟨wp, 2, none⟩ (.slice A3 0 c3)) X pp (start : Nat) (steps : Nat) S from hm.keep fun b hb _ => hfar1 b (fun e => hd b hb (e ▸ hZw)))
  have HK1 := Lib.hid (show Wk (w.setCell ⟨wp, 2, none⟩ (.slice A3 0 c3)) (ZX wp qb0 (.slice A3 0 c3) vu0) wp pp (.slice A3 k3 c3) ⟨W.seen, [], W.found, W.frm, W.to⟩ [] from ⟨qb0, _, vu0, hk1, fun _ => Iff.rfl⟩)
  have HMET := Lib.hid hmet
  have HMN := Lib.hid (show ∀ g, (Value.slice Ah W.held.length ch).ownBlock = some g → ¬ ZX wp qb0 (.slice A3 0 c3) vu0 g ∧ Z g ∧ g < w.heap.size from fun g hg => by
    refine ⟨fun h => ?_, (hZ g).1 (.inl ((hZr g).1 (.inr (.inr (.inl hg))))), (hk.held.lt g hg).2⟩
    rcases h with h | h | h | h
    · exact (hk.h g hg).1 h
    · exact (hk.h g hg).2.1 h
    · exact (hv3 g (hob ▸ h)).2.2.1 hg
    · exact (hk.h g hg).2.2 h)
  have HZ1 := Lib.hid (show ∀ j, ZX wp qb0 (.slice A3 0 c3) vu0 j → Z j ∨ w.heap.size ≤ j from fun j hj => by
    left
    rcases hj with h | h | h | h
    · exact (hZ j).1 (.inl ((hZr j).1 (.inl h)))
    · exact (hZ j).1 (.inl ((hZr j).1 (.inr (.inl h))))
    · exact (hZ j).1 (.inr (hob ▸ h))
    · exact (hZ j).1 (.inl ((hZr j).1 (.inr (.inr (.inr h))))))
  have HKP1 := Lib.hid (show Kept (fun j => Z j ∨ j = pp) w (w.setCell ⟨wp, 2, none⟩ (.slice A3 0 c3)) from (Kept.refl _ w).set_ (p := ⟨wp, 2, none⟩) (.inl (.inl hZw)) _)
  have HI0 := Lib.hid (MInvW.begin_ hV)
  have HV := Lib.hid hV
  have HOK := Lib.hid hok
  have hc30 : (0 : Int) ≤ (c3 : Int) := by omega
  clear hk1 hmet hm h3 h3z hfar1 hZr hv3 hk t0 t1 t4 t5 t6 t7 hV hok
  go_enter Try.func75, Try.ntmps75
  go_wp2_with fail
  go_loopw [8, 9, 24] (fun _ _ vi wr => ∃ (i : Nat) (W1 : WS) (Zr : Nat → Prop), i ≤ W.held.length ∧ vi = .int .i64 (i : Nat) ∧ Wk wr Zr wp pp (.slice A3 k3 c3) W1 [] ∧ MInvW S s at_ W i W1 ∧ Mach wr X pp (start : Nat) ((steps + i : Nat) : Int) S ∧ wr.ownsRow 0 177 2 (.slice Ah W.held.length ch) W.held.length (W.held.flatMap pcC) ∧ (∀ g, (Value.slice Ah W.held.length ch).ownBlock = some g → ¬ Zr g) ∧ (∀ j, Zr j → Z j ∨ w.heap.size ≤ j) ∧ Kept (fun j => Z j ∨ j = pp) w wr) (fun _ _ vi _ => W.held.length - (intOf vi).toNat)
  case atStart => exact ⟨0, _, _, Nat.zero_le _, rfl, HK1.out, HI0.out, HM1.out, HMET.out, fun g hg => (HMN.out g hg).1, HZ1.out, HKP1.out⟩
  case round =>
    clear HK1 HI0 HM1 HMET HZ1 HKP1 t2 t3 f2 f3
    obtain ⟨i, W1, Zr, hi, rfl, hk, hI, hm, hr, hmz, hz, hkp⟩ := hrel
    have HI := Lib.hid hI
    have HM := Lib.hid hm
    have HK := Lib.hid hk
    have HR := Lib.hid hr
    have HP := Lib.hid hkp
    have hkp0 := hkp.size
    obtain ⟨qb, vhh, vu, top, _⟩ := hk.top_
    have hwpl := top.lt
    obtain ⟨t0, t1, t2, t3, t4, t5, t6, t7, f2, f3, -⟩ := wk_cells top
    by_cases hlt : i < W.held.length
    · have hlt' : (i : Int) < (W.held.length : Int) := by omega
      have hi0 : (0 : Int) ≤ (i : Int) := by omega
      obtain ⟨⟨f, q⟩, hp⟩ : ∃ p, W.held[i]? = some p := ⟨W.held[i], List.getElem?_eq_getElem hlt⟩
      obtain ⟨hb0, rfl, m0, m1⟩ := pc_at hr rfl hp
      have hsd := HV.out.sound (f, q) (List.mem_of_getElem? hp)
      obtain ⟨hPf, hfle, ⟨hq0, xs, hxs, hxf⟩, _⟩ := hsd
      have hql : q < S.length := (List.getElem?_eq_some_iff.1 hxs).1
      have hbA : Below wr.heap.size wr (wr.alloc (.cells #[.int .i64 (f : Nat), .int .i64 (q : Nat)] 177)) := (Below.refl _ wr).alloc (Nat.le_refl _) _
      have HPP := Lib.hid hp
      simp only at m0 m1 hfle hPf hxs hq0
      clear hk hI hm hr hkp hp top
      cases hfo : W1.found
      · rw [hfo] at t4
        go_wp2_with fail
        go_quiet (fail)
        have hb5 : Below wr.heap.size wr ((wr.alloc (.cells #[.int .i64 (f : Nat), .int .i64 (q : Nat)] 177)).drewN nq) := ⟨hbA.os, hbA.tape, hbA.output, hbA.size, hbA.block⟩
        have kx5 : Blk ((wr.alloc (.cells #[.int .i64 (f : Nat), .int .i64 (q : Nat)] 177)).drewN nq) wr.heap.size 177 #[.int .i64 (f : Nat), .int .i64 (q : Nat)] := (Blk.new wr _ _).drewN nq
        have hs5 : ((wr.alloc (.cells #[.int .i64 (f : Nat), .int .i64 (q : Nat)] 177)).drewN nq).heap.size = wr.heap.size + 1 := by simp [World.drewN]
        generalize (wr.alloc (.cells #[.int .i64 (f : Nat), .int .i64 (q : Nat)] 177)).drewN nq = W5 at hb5 kx5 hs5 ⊢
        have hm5 := HM.out.below hb5
        have hk5 := HK.out.below hb5
        have hr5 := row_keep HR.out (fun g hg => hb5.block g (HR.out.lt g hg).2)
        have hp5 : Kept (fun j => Z j ∨ j = pp) w W5 := HP.out.trans (kept_below hb5) (fun j hj => .inl hj)
        obtain ⟨qb5, vh5, vu5, top5, _⟩ := hk5.top_
        obtain ⟨a0, a1, a2, a3, a4, a5, a6, a7, -⟩ := wk_cells top5
        obtain ⟨x0, x1, -, -⟩ := blk2 kx5
        obtain ⟨sb, cS, p0, -, p2, pf2, hXsb, _, hsp, cS1, cS2, hrd⟩ := hm5.read hSl
        have hne1 : wp ≠ pp := fun e => hppz (e ▸ hZw)
        have hne2 : wr.heap.size ≠ pp := by have := hXl pp hXpp; omega
        obtain ⟨Q, hQ⟩ : ∃ Q, Q = steps + i := ⟨_, rfl⟩
        have hQl : Q ≤ 4611686018427387904 := by omega
        have hxl0 : (Q : Int) + 1 = ((steps + (i + 1) : Nat) : Int) := by omega
        have hwr1 : IntKind.i64.wrap ((Q : Int) + 1) = (Q : Int) + 1 := by rw [IntKind.wrap_i64]; omega
        rw [← hQ] at p2 hm5
        have hm6 := hm5.setSteps (steps' := (Q : Int) + 1)
        have hsz6 : (W5.setCell ⟨pp, 2, none⟩ (.int .i64 ((Q : Int) + 1))).heap.size = W5.heap.size := by simp [World.setCell]
        have hfar6 : ∀ b, b ≠ pp → (W5.setCell ⟨pp, 2, none⟩ (.int .i64 ((Q : Int) + 1))).heap[b]? = W5.heap[b]? := fun b hb => Below.heap_setCell W5 _ _ b hb
        have hzpp : ¬ Zr pp := fun h => by
          rcases hz pp h with h | h
          · exact hppz h
          · have := hXl pp hXpp; omega
        have hk6 := hk5.keep (w' := (W5.setCell ⟨pp, 2, none⟩ (.int .i64 ((Q : Int) + 1)))) fun b hb _ => hfar6 b (fun e => hzpp (e ▸ hb))
        have hr6 := row_keep hr5 (fun g hg => hfar6 g (fun e => hppz (e ▸ (HMN.out g hg).2.1)))
        have kx6 := kx5.far (p := ⟨pp, 2, none⟩) hne2 (.int .i64 ((Q : Int) + 1))
        have hp6 := hp5.set_ (p := ⟨pp, 2, none⟩) (.inl (.inr rfl)) (.int .i64 ((Q : Int) + 1))
        rw [hxl0] at hm6
        have q0 : (0 : Int) ≤ (q : Int) := by omega
        have q1 : (q : Int) < (S.length : Int) := by omega
        have HM6 := Lib.hid (show Mach (W5.setCell ⟨pp, 2, none⟩ (.int .i64 ((Q : Int) + 1))) X pp (start : Nat) ((steps + (i + 1) : Nat) : Int) S by rw [hxl0]; exact hm6)
        have HK6 := Lib.hid hk6
        have HR6 := Lib.hid hr6
        have HX6 := Lib.hid kx6
        have HP6 := Lib.hid hp6
        have HSZ6 := Lib.hid hsz6
        have P06 := Lib.hid (show (W5.setCell ⟨pp, 2, none⟩ (.int .i64 ((Q : Int) + 1))).cell? ⟨pp, 0, none⟩ = some (.slice (some ⟨sb, 0, none⟩) S.length cS) from (World.cell?_setCell_other _ _ _ _ (by intro e; injection e with _ e _; cases e)).trans p0)
        clear hm5 hk5 hr5 hp5 hm6 hk6 hr6 hp6 kx6 kx5 hb5 hfar6 hxl0 hsz6 hQ top5 hrd hQl
        go_wp2_with fail
        go_quiet (fail)
        have P07 : ((W5.setCell ⟨pp, 2, none⟩ (.int .i64 ((Q : Int) + 1))).drewN nq).cell? ⟨pp, 0, none⟩ = some (.slice (some ⟨sb, 0, none⟩) S.length cS) := P06.out
        have hm7 : Mach ((W5.setCell ⟨pp, 2, none⟩ (.int .i64 ((Q : Int) + 1))).drewN nq) X pp (start : Nat) ((steps + (i + 1) : Nat) : Int) S := HM6.out.keep fun _ _ _ => rfl
        have hk7 : Wk ((W5.setCell ⟨pp, 2, none⟩ (.int .i64 ((Q : Int) + 1))).drewN nq) Zr wp pp (.slice A3 k3 c3) W1 [] := HK6.out.keep fun _ _ _ => rfl
        have hr7 : ((W5.setCell ⟨pp, 2, none⟩ (.int .i64 ((Q : Int) + 1))).drewN nq).ownsRow 0 177 2 (.slice (some ⟨hb0, 0, none⟩) W.held.length ch) W.held.length (W.held.flatMap pcC) := row_keep HR6.out (fun g hg => rfl)
        have kx7 := HX6.out.drewN nq
        have hp7 := HP6.out.drewN nq
        have hs7 : ((W5.setCell ⟨pp, 2, none⟩ (.int .i64 ((Q : Int) + 1))).drewN nq).heap.size = wr.heap.size + 1 := by show (W5.setCell ⟨pp, 2, none⟩ (.int .i64 ((Q : Int) + 1))).heap.size = _; rw [HSZ6.out]; exact hs5
        clear HM6 HK6 HR6 HX6 HP6 HSZ6 P06 a0 a1 a2 a3 a4 a5 a6 a7 x0 x1 p0 p2 pf2
        generalize (W5.setCell ⟨pp, 2, none⟩ (.int .i64 ((Q : Int) + 1))).drewN nq = W7 at hm7 hk7 hr7 kx7 hp7 hs7 P07 ⊢
        obtain ⟨sb7, cS7, p0, -, -, -, hXsb7, _, hsp7, cS17, cS27, hrd⟩ := hm7.read hSl
        have hsbe := p0.symm.trans P07
        obtain rfl : sb7 = sb := by injection hsbe with e; injection e with e _ _; injection e with e; injection e
        clear hsbe P07
        obtain ⟨hby, -, An, cN, hnx, hnc, hnj, -, -⟩ := hrd q xs hxs
        have hb256 := b.toNat_lt
        have y1 := hby b.toNat (by omega)
        have z0 : (0 : Int) ≤ (b.toNat : Int) := by omega
        have z1 : (b.toNat : Int) < 256 := by omega
        have HR7 := Lib.hid hr7
        have HK7 := Lib.hid hk7
        have HM7 := Lib.hid hm7
        have HP7 := Lib.hid hp7
        clear hr7 hk7 hm7 hp7 hrd hby
        cases hbt : xs.bytes b.toNat
        · rw [hbt] at y1
          have HI' := Lib.hid (HI.out.skip HPP.out (fun n hst => by
            obtain ⟨_, y, hy, h | ⟨_, c, hc, hyc, _⟩⟩ := hst
            · rw [hxs] at hy; obtain rfl := Option.some.inj hy; rw [hxf] at h; exact nomatch h.1
            · rw [hxs] at hy; obtain rfl := Option.some.inj hy
              rw [hb] at hc; obtain rfl := Option.some.inj hc
              rw [hbt] at hyc; exact nomatch hyc))
          go_wp2_with fail
          go_roundw
          case rel => exact ⟨i + 1, W1, Zr, hlt, by go_num, HK7.out.keep fun _ _ _ => rfl, HI'.out, HM7.out.keep fun _ _ _ => rfl, row_keep HR7.out fun _ _ => rfl, hmz, hz, HP7.out⟩
          case measure => simp [intOf]; omega
        · rw [hbt] at y1
          obtain ⟨nx, hn0⟩ := (HOK.out.2 q xs hxs).2 hq0 hxf
          have hnxl := (HOK.out.2 q xs hxs).1 nx (List.mem_of_getElem? hn0)
          have hnL : 0 < xs.next.length := (List.getElem?_eq_some_iff.1 hn0).1
          obtain ⟨gN, rfl, hXg, n0⟩ := hnj 0 nx hn0
          obtain ⟨f0, f1, -, -⟩ := blk2 kx7
          have hst : Stp S s ((f, q).2, at_) (nx, at_ + 1) := ⟨hq0, xs, hxs, .inr ⟨hxf, b, hb, hbt, hn0, rfl⟩⟩
          have hgo : W1.found = true → f ≤ W1.frm := fun e => nomatch hfo.symm.trans e
          have HRE := Lib.hid (reach_any (w := W7.drew) (HM7.out.keep fun _ _ _ => rfl) HOK.out (HK7.out.keep fun _ _ _ => rfl) (fun j hx hzz => by
            rcases hz j hzz with h | h
            · exact hd j hx h
            · have := hXl j hx; omega) HI.out.len nx f (at_ + 1) hnxl hat (by omega) he hS (Nat.le_trans HI.out.few hS) (HI.out.clo HOK.out))
          have HST := Lib.hid hst
          have HGO := Lib.hid hgo
          clear hst hgo
          go_wp2_with fail
          go_still_tail 10, (by kernel_rfl)
          change wpList _ _ _ _ _ W7.drew
          go_wp2_with fail
          refine HRE.out.mono ?_
          rintro e we ⟨rfl, Z2, W2, hk8, hro, hz8, hp8⟩
          have HI' := Lib.hid (HI.out.step HOK.out HV.out HPP.out HST.out HGO.out hro)
          have hp8' : Kept (fun j => Z j ∨ j = pp) w we := (HP7.out.drewN 1).trans hp8 (fun j hj => by
            rcases hz j hj with h | h
            · exact .inl (.inl h)
            · exact .inr h)
          have hm8 : Mach we X pp (start : Nat) ((steps + (i + 1) : Nat) : Int) S := HM7.out.keep fun j hx hj => (hp8.block j hj fun hzz => by
            rcases hz j hzz with h | h
            · exact hd j hx h
            · have := hXl j hx; omega)
          have hr8 : we.ownsRow 0 177 2 (.slice (some ⟨hb0, 0, none⟩) W.held.length ch) W.held.length (W.held.flatMap pcC) := row_keep HR7.out (fun g hg => hp8.block g (HR7.out.lt g hg).2 (hmz g hg))
          have HK8 := Lib.hid hk8
          have HM8 := Lib.hid hm8
          have HR8 := Lib.hid hr8
          have HP8 := Lib.hid hp8'
          have hz9 : ∀ j, Z2 j → Z j ∨ w.heap.size ≤ j := fun j hj => by
            rcases hz8 j hj with h | h
            · exact hz j h
            · have : W7.heap.size ≤ j := h
              exact .inr (by omega)
          have hmz9 : ∀ g, (Value.slice (some ⟨hb0, 0, none⟩) W.held.length ch).ownBlock = some g → ¬ Z2 g := fun g hg h => by
            rcases hz8 g h with h | h
            · exact hmz g hg h
            · have : W7.heap.size ≤ g := h
              have := (HMN.out g hg).2.2
              omega
          clear hk8 hro hz8 hp8 hp8' hm8 hr8
          go_wp2_with fail
          go_roundw
          case rel => exact ⟨i + 1, W2, Z2, hlt, by go_num, HK8.out.keep fun _ _ _ => rfl, HI'.out, HM8.out.keep fun _ _ _ => rfl, row_keep HR8.out fun _ _ => rfl, hmz9, hz9, HP8.out⟩
          case measure => simp [intOf]; omega
      · rw [hfo] at t4
        by_cases hgt : W1.frm < f
        · have hgt' : (W1.frm : Int) < (f : Int) := by omega
          go_wp2_with fail
          go_quiet (fail)
          have hb5 : Below wr.heap.size wr ((wr.alloc (.cells #[.int .i64 (f : Nat), .int .i64 (q : Nat)] 177)).drewN nq) := ⟨hbA.os, hbA.tape, hbA.output, hbA.size, hbA.block⟩
          have kx5 : Blk ((wr.alloc (.cells #[.int .i64 (f : Nat), .int .i64 (q : Nat)] 177)).drewN nq) wr.heap.size 177 #[.int .i64 (f : Nat), .int .i64 (q : Nat)] := (Blk.new wr _ _).drewN nq
          have hs5 : ((wr.alloc (.cells #[.int .i64 (f : Nat), .int .i64 (q : Nat)] 177)).drewN nq).heap.size = wr.heap.size + 1 := by simp [World.drewN]
          generalize (wr.alloc (.cells #[.int .i64 (f : Nat), .int .i64 (q : Nat)] 177)).drewN nq = W5 at hb5 kx5 hs5 ⊢
          have hm5 := HM.out.below hb5
          have hk5 := HK.out.below hb5
          have hr5 := row_keep HR.out (fun g hg => hb5.block g (HR.out.lt g hg).2)
          have hp5 : Kept (fun j => Z j ∨ j = pp) w W5 := HP.out.trans (kept_below hb5) (fun j hj => .inl hj)
          have hkX := hk5
          have hmX := hm5
          have hrX := hr5
          have hpX := hp5
          obtain ⟨qb5, vh5, vu5, top5, _⟩ := hk5.top_
          obtain ⟨a0, a1, a2, a3, a4, a5, a6, a7, -, g3, -⟩ := wk_cells top5
          have hZrw : Zr wp := (hkX.top_).choose_spec.choose_spec.choose_spec.2
          have HFIN := Lib.hid (show MeetPost w X Z wp pp (start : Nat) steps S s P at_ W (.returned (.tuple #[])) (W5.setCell ⟨wp, 3, none⟩ (.slice (some ⟨hb0, 0, none⟩) W.held.length ch)) from by
            refine ⟨rfl, fun j => Zr j ∨ (Value.slice (some ⟨hb0, 0, none⟩) W.held.length ch).ownBlock = some j, W1, steps + i, ⟨Zr, _, _, _, hkX.set3, row_keep hrX fun g hg => Below.heap_setCell W5 _ _ g (fun e => hmz g hg (e ▸ hZrw)), hmz, fun _ => Iff.rfl⟩, hmX.keep fun g hg _ => Below.heap_setCell W5 _ _ g (fun e => hd g hg (e ▸ hZw)), ?_, by omega, fun j hj => ?_, hpX.set_ (p := ⟨wp, 3, none⟩) (.inl (.inl hZw)) _, HI.out.unfound⟩
            · rw [Int.toNat_natCast]; exact HI.out.done HOK.out HV.out hP (.inr ⟨(f, q), HPP.out, hfo, hgt⟩)
            · rcases hj with hj | hj
              · exact hz j hj
              · exact .inl (HMN.out j hj).2.1)
          clear hkX hmX hrX hpX hk5 hm5 hr5 hp5 kx5 hb5 top5
          go_wp2
          go_end0
          exact HFIN.out
        · have hgt' : ¬ (W1.frm : Int) < (f : Int) := by omega
          go_wp2_with fail
          go_quiet (fail)
          have hb5 : Below wr.heap.size wr ((wr.alloc (.cells #[.int .i64 (f : Nat), .int .i64 (q : Nat)] 177)).drewN nq) := ⟨hbA.os, hbA.tape, hbA.output, hbA.size, hbA.block⟩
          have kx5 : Blk ((wr.alloc (.cells #[.int .i64 (f : Nat), .int .i64 (q : Nat)] 177)).drewN nq) wr.heap.size 177 #[.int .i64 (f : Nat), .int .i64 (q : Nat)] := (Blk.new wr _ _).drewN nq
          have hs5 : ((wr.alloc (.cells #[.int .i64 (f : Nat), .int .i64 (q : Nat)] 177)).drewN nq).heap.size = wr.heap.size + 1 := by simp [World.drewN]
          generalize (wr.alloc (.cells #[.int .i64 (f : Nat), .int .i64 (q : Nat)] 177)).drewN nq = W5 at hb5 kx5 hs5 ⊢
          have hm5 := HM.out.below hb5
          have hk5 := HK.out.below hb5
          have hr5 := row_keep HR.out (fun g hg => hb5.block g (HR.out.lt g hg).2)
          have hp5 : Kept (fun j => Z j ∨ j = pp) w W5 := HP.out.trans (kept_below hb5) (fun j hj => .inl hj)
          obtain ⟨qb5, vh5, vu5, top5, _⟩ := hk5.top_
          obtain ⟨a0, a1, a2, a3, a4, a5, a6, a7, -⟩ := wk_cells top5
          obtain ⟨x0, x1, -, -⟩ := blk2 kx5
          obtain ⟨sb, cS, p0, -, p2, pf2, hXsb, _, hsp, cS1, cS2, hrd⟩ := hm5.read hSl
          have hne1 : wp ≠ pp := fun e => hppz (e ▸ hZw)
          have hne2 : wr.heap.size ≠ pp := by have := hXl pp hXpp; omega
          obtain ⟨Q, hQ⟩ : ∃ Q, Q = steps + i := ⟨_, rfl⟩
          have hQl : Q ≤ 4611686018427387904 := by omega
          have hxl0 : (Q : Int) + 1 = ((steps + (i + 1) : Nat) : Int) := by omega
          have hwr1 : IntKind.i64.wrap ((Q : Int) + 1) = (Q : Int) + 1 := by rw [IntKind.wrap_i64]; omega
          rw [← hQ] at p2 hm5
          have hm6 := hm5.setSteps (steps' := (Q : Int) + 1)
          have hsz6 : (W5.setCell ⟨pp, 2, none⟩ (.int .i64 ((Q : Int) + 1))).heap.size = W5.heap.size := by simp [World.setCell]
          have hfar6 : ∀ b, b ≠ pp → (W5.setCell ⟨pp, 2, none⟩ (.int .i64 ((Q : Int) + 1))).heap[b]? = W5.heap[b]? := fun b hb => Below.heap_setCell W5 _ _ b hb
          have hzpp : ¬ Zr pp := fun h => by
            rcases hz pp h with h | h
            · exact hppz h
            · have := hXl pp hXpp; omega
          have hk6 := hk5.keep (w' := (W5.setCell ⟨pp, 2, none⟩ (.int .i64 ((Q : Int) + 1)))) fun b hb _ => hfar6 b (fun e => hzpp (e ▸ hb))
          have hr6 := row_keep hr5 (fun g hg => hfar6 g (fun e => hppz (e ▸ (HMN.out g hg).2.1)))
          have kx6 := kx5.far (p := ⟨pp, 2, none⟩) hne2 (.int .i64 ((Q : Int) + 1))
          have hp6 := hp5.set_ (p := ⟨pp, 2, none⟩) (.inl (.inr rfl)) (.int .i64 ((Q : Int) + 1))
          rw [hxl0] at hm6
          have q0 : (0 : Int) ≤ (q : Int) := by omega
          have q1 : (q : Int) < (S.length : Int) := by omega
          have HM6 := Lib.hid (show Mach (W5.setCell ⟨pp, 2, none⟩ (.int .i64 ((Q : Int) + 1))) X pp (start : Nat) ((steps + (i + 1) : Nat) : Int) S by rw [hxl0]; exact hm6)
          have HK6 := Lib.hid hk6
          have HR6 := Lib.hid hr6
          have HX6 := Lib.hid kx6
          have HP6 := Lib.hid hp6
          have HSZ6 := Lib.hid hsz6
          have P06 := Lib.hid (show (W5.setCell ⟨pp, 2, none⟩ (.int .i64 ((Q : Int) + 1))).cell? ⟨pp, 0, none⟩ = some (.slice (some ⟨sb, 0, none⟩) S.length cS) from (World.cell?_setCell_other _ _ _ _ (by intro e; injection e with _ e _; cases e)).trans p0)
          clear hm5 hk5 hr5 hp5 hm6 hk6 hr6 hp6 kx6 kx5 hb5 hfar6 hxl0 hsz6 hQ top5 hrd hQl
          go_wp2_with fail
          go_quiet (fail)
          have P07 : ((W5.setCell ⟨pp, 2, none⟩ (.int .i64 ((Q : Int) + 1))).drewN nq).cell? ⟨pp, 0, none⟩ = some (.slice (some ⟨sb, 0, none⟩) S.length cS) := P06.out
          have hm7 : Mach ((W5.setCell ⟨pp, 2, none⟩ (.int .i64 ((Q : Int) + 1))).drewN nq) X pp (start : Nat) ((steps + (i + 1) : Nat) : Int) S := HM6.out.keep fun _ _ _ => rfl
          have hk7 : Wk ((W5.setCell ⟨pp, 2, none⟩ (.int .i64 ((Q : Int) + 1))).drewN nq) Zr wp pp (.slice A3 k3 c3) W1 [] := HK6.out.keep fun _ _ _ => rfl
          have hr7 : ((W5.setCell ⟨pp, 2, none⟩ (.int .i64 ((Q : Int) + 1))).drewN nq).ownsRow 0 177 2 (.slice (some ⟨hb0, 0, none⟩) W.held.length ch) W.held.length (W.held.flatMap pcC) := row_keep HR6.out (fun g hg => rfl)
          have kx7 := HX6.out.drewN nq
          have hp7 := HP6.out.drewN nq
          have hs7 : ((W5.setCell ⟨pp, 2, none⟩ (.int .i64 ((Q : Int) + 1))).drewN nq).heap.size = wr.heap.size + 1 := by show (W5.setCell ⟨pp, 2, none⟩ (.int .i64 ((Q : Int) + 1))).heap.size = _; rw [HSZ6.out]; exact hs5
          clear HM6 HK6 HR6 HX6 HP6 HSZ6 P06 a0 a1 a2 a3 a4 a5 a6 a7 x0 x1 p0 p2 pf2
          generalize (W5.setCell ⟨pp, 2, none⟩ (.int .i64 ((Q : Int) + 1))).drewN nq = W7 at hm7 hk7 hr7 kx7 hp7 hs7 P07 ⊢
          obtain ⟨sb7, cS7, p0, -, -, -, hXsb7, _, hsp7, cS17, cS27, hrd⟩ := hm7.read hSl
          have hsbe := p0.symm.trans P07
          obtain rfl : sb7 = sb := by injection hsbe with e; injection e with e _ _; injection e with e; injection e
          clear hsbe P07
          obtain ⟨hby, -, An, cN, hnx, hnc, hnj, -, -⟩ := hrd q xs hxs
          have hb256 := b.toNat_lt
          have y1 := hby b.toNat (by omega)
          have z0 : (0 : Int) ≤ (b.toNat : Int) := by omega
          have z1 : (b.toNat : Int) < 256 := by omega
          have HR7 := Lib.hid hr7
          have HK7 := Lib.hid hk7
          have HM7 := Lib.hid hm7
          have HP7 := Lib.hid hp7
          clear hr7 hk7 hm7 hp7 hrd hby
          cases hbt : xs.bytes b.toNat
          · rw [hbt] at y1
            have HI' := Lib.hid (HI.out.skip HPP.out (fun n hst => by
              obtain ⟨_, y, hy, h | ⟨_, c, hc, hyc, _⟩⟩ := hst
              · rw [hxs] at hy; obtain rfl := Option.some.inj hy; rw [hxf] at h; exact nomatch h.1
              · rw [hxs] at hy; obtain rfl := Option.some.inj hy
                rw [hb] at hc; obtain rfl := Option.some.inj hc
                rw [hbt] at hyc; exact nomatch hyc))
            go_wp2_with fail
            go_roundw
            case rel => exact ⟨i + 1, W1, Zr, hlt, by go_num, HK7.out.keep fun _ _ _ => rfl, HI'.out, HM7.out.keep fun _ _ _ => rfl, row_keep HR7.out fun _ _ => rfl, hmz, hz, HP7.out⟩
            case measure => simp [intOf]; omega
          · rw [hbt] at y1
            obtain ⟨nx, hn0⟩ := (HOK.out.2 q xs hxs).2 hq0 hxf
            have hnxl := (HOK.out.2 q xs hxs).1 nx (List.mem_of_getElem? hn0)
            have hnL : 0 < xs.next.length := (List.getElem?_eq_some_iff.1 hn0).1
            obtain ⟨gN, rfl, hXg, n0⟩ := hnj 0 nx hn0
            obtain ⟨f0, f1, -, -⟩ := blk2 kx7
            have hst : Stp S s ((f, q).2, at_) (nx, at_ + 1) := ⟨hq0, xs, hxs, .inr ⟨hxf, b, hb, hbt, hn0, rfl⟩⟩
            have hgo : W1.found = true → f ≤ W1.frm := fun _ => by omega
            have HRE := Lib.hid (reach_any (w := W7.drew) (HM7.out.keep fun _ _ _ => rfl) HOK.out (HK7.out.keep fun _ _ _ => rfl) (fun j hx hzz => by
              rcases hz j hzz with h | h
              · exact hd j hx h
              · have := hXl j hx; omega) HI.out.len nx f (at_ + 1) hnxl hat (by omega) he hS (Nat.le_trans HI.out.few hS) (HI.out.clo HOK.out))
            have HST := Lib.hid hst
            have HGO := Lib.hid hgo
            clear hst hgo
            go_wp2_with fail
            go_still_tail 10, (by kernel_rfl)
            change wpList _ _ _ _ _ W7.drew
            go_wp2_with fail
            refine HRE.out.mono ?_
            rintro e we ⟨rfl, Z2, W2, hk8, hro, hz8, hp8⟩
            have HI' := Lib.hid (HI.out.step HOK.out HV.out HPP.out HST.out HGO.out hro)
            have hp8' : Kept (fun j => Z j ∨ j = pp) w we := (HP7.out.drewN 1).trans hp8 (fun j hj => by
              rcases hz j hj with h | h
              · exact .inl (.inl h)
              · exact .inr h)
            have hm8 : Mach we X pp (start : Nat) ((steps + (i + 1) : Nat) : Int) S := HM7.out.keep fun j hx hj => (hp8.block j hj fun hzz => by
              rcases hz j hzz with h | h
              · exact hd j hx h
              · have := hXl j hx; omega)
            have hr8 : we.ownsRow 0 177 2 (.slice (some ⟨hb0, 0, none⟩) W.held.length ch) W.held.length (W.held.flatMap pcC) := row_keep HR7.out (fun g hg => hp8.block g (HR7.out.lt g hg).2 (hmz g hg))
            have HK8 := Lib.hid hk8
            have HM8 := Lib.hid hm8
            have HR8 := Lib.hid hr8
            have HP8 := Lib.hid hp8'
            have hz9 : ∀ j, Z2 j → Z j ∨ w.heap.size ≤ j := fun j hj => by
              rcases hz8 j hj with h | h
              · exact hz j h
              · have : W7.heap.size ≤ j := h
                exact .inr (by omega)
            have hmz9 : ∀ g, (Value.slice (some ⟨hb0, 0, none⟩) W.held.length ch).ownBlock = some g → ¬ Z2 g := fun g hg h => by
              rcases hz8 g h with h | h
              · exact hmz g hg h
              · have : W7.heap.size ≤ g := h
                have := (HMN.out g hg).2.2
                omega
            clear hk8 hro hz8 hp8 hp8' hm8 hr8
            go_wp2_with fail
            go_roundw
            case rel => exact ⟨i + 1, W2, Z2, hlt, by go_num, HK8.out.keep fun _ _ _ => rfl, HI'.out, HM8.out.keep fun _ _ _ => rfl, row_keep HR8.out fun _ _ => rfl, hmz9, hz9, HP8.out⟩
            case measure => simp [intOf]; omega
    · obtain rfl : W.held.length = i := by omega
      have hlt' : ¬ (W.held.length : Int) < (W.held.length : Int) := by omega
      have hkX := hk
      have hmX := hm
      have hrX := hr
      have hpX := hkp
      have hZrw : Zr wp := (hkX.top_).choose_spec.choose_spec.choose_spec.2
      have HFIN := Lib.hid (show MeetPost w X Z wp pp (start : Nat) steps S s P at_ W (.returned (.tuple #[])) (wr.setCell ⟨wp, 3, none⟩ (.slice Ah W.held.length ch)) from by
        refine ⟨rfl, fun j => Zr j ∨ (Value.slice Ah W.held.length ch).ownBlock = some j, W1, steps + W.held.length, ⟨Zr, _, _, _, hkX.set3, row_keep hrX fun g hg => Below.heap_setCell wr _ _ g (fun e => hmz g hg (e ▸ hZrw)), hmz, fun _ => Iff.rfl⟩, hmX.keep fun g hg _ => Below.heap_setCell wr _ _ g (fun e => hd g hg (e ▸ hZw)), ?_, by omega, fun j hj => ?_, hpX.set_ (p := ⟨wp, 3, none⟩) (.inl (.inl hZw)) _, HI.out.unfound⟩
        · rw [Int.toNat_natCast]; exact HI.out.done HOK.out HV.out hP (.inl (Nat.le_refl _))
        · rcases hj with hj | hj
          · exact hz j hj
          · exact .inl (HMN.out j hj).2.1)
      clear hk hI hm hr hkp top hkX hmX hrX hpX
      go_wp2
      go_end0
      exact HFIN.out
end Go.Proofs.Ytjnhmcgjeljcmaa
