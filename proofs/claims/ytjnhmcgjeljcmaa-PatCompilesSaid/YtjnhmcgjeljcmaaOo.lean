/- nfa's reach, walked. -/
import Derived.Test.YtjnhmcgjeljcmaaOn
import Derived.Deep.LoopGhost
namespace Go.Proofs.Ytjnhmcgjeljcmaa
open Go.RowKit Go.Maps

theorem zx_u {wp qb : Nat} {vh vu vu' : Value} {N M : Nat} (h5 : vu'.ownBlock = vu.ownBlock ∨ vu'.ownBlock = some N) (hN : M ≤ N) {j : Nat} (hj : ZX wp qb vh vu' j) : ZX wp qb vh vu j ∨ M ≤ j := by
  rcases hj with h | h | h | h
  · exact .inl (.inl h)
  · exact .inl (.inr (.inl h))
  · exact .inl (.inr (.inr (.inl h)))
  · rcases h5 with h5 | h5
    · exact .inl (.inr (.inr (.inr (by rw [← h5]; exact h))))
    · right; rw [h5] at h; have := Option.some.inj h; omega
theorem zx_h {wp qb : Nat} {vh vh' vu : Value} {N M : Nat} (h5 : vh'.ownBlock = vh.ownBlock ∨ vh'.ownBlock = some N) (hN : M ≤ N) {j : Nat} (hj : ZX wp qb vh' vu j) : ZX wp qb vh vu j ∨ M ≤ j := by
  rcases hj with h | h | h | h
  · exact .inl (.inl h)
  · exact .inl (.inr (.inl h))
  · rcases h5 with h5 | h5
    · exact .inl (.inr (.inr (.inl (by rw [← h5]; exact h))))
    · right; rw [h5] at h; have := Option.some.inj h; omega
  · exact .inl (.inr (.inr (.inr h)))
theorem row_form {w : World} {B : Nat} {e : TypeId} {sz n : Nat} {v : Value} {xs : List Value} (h : w.ownsRow B e sz v n xs) : ∃ A c, v = .slice A n c ∧ n ≤ c ∧ c ≤ maxLen := by
  rcases h.2 with ⟨e1, h0⟩ | ⟨g, cap, cur, e1, _, _, h3, h4, _⟩
  · exact ⟨none, 0, by rw [h0]; exact e1, by omega, Nat.zero_le _⟩
  · exact ⟨_, cap, e1, h3, h4⟩
theorem fk_none {S : List St} {s : Nat} {x : St} (hs : S[s]? = some x) (h : s = 0 ∨ x.fork = false) (r : Nat) : ¬ Fk S s r := fun ⟨h0, y, hy, hk, _⟩ => by
  rcases h with rfl | h
  · exact h0 rfl
  · rw [hs] at hy
    obtain rfl := Option.some.inj hy
    rw [h] at hk; cases hk
set_option maxHeartbeats 4000000 in
set_option maxRecDepth 100000 in
theorem reach_any {w : World} {X Z : Nat → Prop} {wp pp : Nat} {v3 : Value} {start steps : Int} {S : List St} {W : WS} (hm : Mach w X pp start steps S) (hok : MOk S) (hwk : Wk w Z wp pp v3 W []) (hd : ∀ j, X j → ¬ Z j) (hsl : W.seen.length = S.length)
    (first frm at_ : Nat) (hf : first < S.length) (hat : at_ ≤ 1000000000000) (_ : frm ≤ 1000000000000) (he : edgesM S ≤ 100000) (hS : S.length ≤ 100000) (hhl : W.held.length ≤ 100000)
    (hc : ∀ q r : Nat, W.seen[q]? = some (at_ + 1) → Fk S q r → W.seen[r]? = some (at_ + 1)) :
    Calls Try.prog 74 #[.pointer (some ⟨wp, 0, none⟩), .int .i64 (first : Nat), .int .i64 (frm : Nat), .int .i64 (at_ : Nat)] w (ReachPost w Z wp pp v3 S first frm at_ W) := by
  have mixed : Try.prog.follows .mixedOrders = true := by kernel_rfl
  obtain ⟨qb0, vh0, vu0, hk, hZ⟩ := hwk
  have hXl : ∀ j, X j → j < w.heap.size := fun j hj => hm.old hj
  have hZw : Z wp := (hZ wp).1 (.inl rfl)
  have hwl := hk.top.lt
  -- the first one
  have hb1 : Below w.heap.size w (w.alloc (.cells #[.int .i64 (first : Nat)] 3)) := (Below.refl _ w).alloc (Nat.le_refl _) _
  have hk1 := hk.keep (w' := w.alloc (.cells #[.int .i64 (first : Nat)] 3)) fun b hb => hb1.block b (hk.lt hb)
  obtain ⟨A1, c1, w1, hrun, hw1, hk2, hg1, hb5⟩ := hk1.push 39 (ad := ⟨w.heap.size, 0, none⟩) (ns := [first]) (fun j u hu => by
    match j, hu with
    | 0, hu =>
      obtain rfl := Option.some.inj hu
      exact (Blk.new w 3 #[.int .i64 (first : Nat)]).cell 0) (by simp) (by simp) 1
  simp only [List.length_nil, List.length_singleton, Nat.zero_add, List.nil_append] at hrun hk2 hb5
  obtain ⟨t0, t1, t2, t3, t4, t5, t6, t7, -⟩ := wk_cells hk.top
  obtain ⟨-, -, -, -, -, -, -, y7, -, -, -, -, -, z7⟩ := wk_cells (show Blk w1 wp 157 _ from hw1.trans hk1.top)
  have HRUN := Lib.hid hrun
  have HK2 := Lib.hid hk2
  have HZ2 := Lib.hid (show ∀ j, ZX wp qb0 vh0 (.slice A1 1 c1) j → Z j ∨ w.heap.size ≤ j from fun j hj => by
    rcases zx_u hb5 (M := w.heap.size) (by simp) hj with h | h
    · exact .inl ((hZ j).1 h)
    · exact .inr h)
  have HKP2 := Lib.hid (show Kept Z w (w1.setCell ⟨wp, 7, none⟩ (.slice A1 1 c1)) from by
    have k1 : Kept Z w w1 := ((Kept.refl Z w).alloc (.cells #[.int .i64 (first : Nat)] 3)).grown hg1 (fun j hj => by
      have := (hZ j).1 (.inr (.inr (.inr hj)))
      exact .inl this)
    exact k1.set_ (.inl hZw) _)
  have HM := Lib.hid hm
  have HOK := Lib.hid hok
  have HC := Lib.hid hc
  clear hrun hk2 hk1 hb5 hg1 hw1 hb1 hk hm hok hc t0 t1 t2 t3 t4 t5 t6
  go_enter Try.func74, Try.ntmps74
  go_wp2_with (at_builtin; refine wpList_append_run rfl (.tmp 14) (.tmp 16) 39 rfl _ _ _ rfl rfl HRUN.out ?_)
  clear t7 y7 z7
  go_loopg [8, 9] (1 + muR S W.seen (at_ + 1)) (fun gn _ _ wr => ∃ (st : List Nat) (W1 : WS) (qb : Nat) (vh vu : Value), gn = st.length + muR S W1.seen (at_ + 1) ∧ gn ≤ 1 + edgesM S ∧ WkT wr wp qb pp vh v3 vu W1 st ∧ RInv S W first frm at_ st W1 ∧ (∀ j, ZX wp qb vh vu j → Z j ∨ w.heap.size ≤ j) ∧ Kept Z w wr)
  case atStart => exact ⟨[first], W, qb0, vh0, .slice A1 1 c1, rfl, by have := muR_le (M := S) W.seen (at_ + 1); omega, HK2.out, RInv.begin_ hf, HZ2.out, HKP2.out⟩
  case round =>
    clear HK2 HZ2 HKP2 HRUN hZ
    obtain ⟨st, W1, qb, vh, vu, hgn, hgl, hk, hri, hz, hkp⟩ := hrel
    have hrl := hri.len
    have hwl2 := hk.top.lt
    have hql2 := hk.seen.lt
    obtain ⟨A0, c0, hvu, hc0, hcm⟩ := row_form hk.unf
    rcases List.eq_nil_or_concat st with rfl | ⟨st', s, rfl⟩
    · subst hvu
      obtain ⟨-, -, -, -, -, -, -, t7, -⟩ := wk_cells hk.top
      have HFIN := Lib.hid (show ReachPost w Z wp pp v3 S first frm at_ W (.returned (.tuple #[])) wr from ⟨rfl, fun j => ZX wp qb vh (.slice A0 ([] : List Nat).length c0) j, W1, ⟨qb, vh, _, hk, fun _ => Iff.rfl⟩, hri.out HC.out, hz, hkp⟩)
      clear hk hri hz hkp hgn
      simp only [List.length_nil] at t7
      go_wp2
      go_end0
      exact HFIN.out
    · clear hvu hc0 hcm
      rw [List.concat_eq_append] at hk hri hgn
      obtain ⟨ub, cu, hvu2, hcu, hcm2, hu0, hkpop⟩ := hk.pop
      subst hvu2
      have hsL := (hri.stk s (List.mem_append_right _ (List.mem_singleton_self _))).2
      obtain ⟨x, hx⟩ : ∃ x, S[s]? = some x := ⟨S[s], List.getElem?_eq_getElem hsL⟩
      obtain ⟨v, hv⟩ : ∃ v, W1.seen[s]? = some v := ⟨W1.seen[s]'(by omega), List.getElem?_eq_getElem _⟩
      obtain ⟨s0, sf⟩ := hk.seen_at hv
      change wr.cell? ⟨qb, s, none⟩ = some (.int .i64 (v : Nat)) at s0
      change wr.cell? ⟨ub, st'.length, none⟩ = some (.int .i64 (s : Nat)) at hu0
      obtain ⟨t0, t1, t2, t3, t4, t5, t6, t7, f2, f3, f4, f5, f6, f7⟩ := wk_cells hk.top
      change wr.cell? ⟨wp, 5, none⟩ = some (.int .i64 (W1.frm : Nat)) at t5
      change wr.cell? ⟨wp, 6, none⟩ = some (.int .i64 (W1.to : Nat)) at t6
      have hqw := hk.q
      have hubw := (hk.u ub rfl).1
      have hubq := (hk.u ub rfl).2
      have hrlS : W1.seen.length = S.length := by omega
      rw [hrlS] at t1
      have hlst : st'.length ≤ 200000 := by rw [List.length_append, List.length_singleton] at hgn; omega
      have i1 : ((st'.length : Int) + 1 - 1) = (st'.length : Int) := by omega
      have i2 : (0 : Int) ≤ (st'.length : Int) := by omega
      have i3 : (st'.length : Int) < (st'.length : Int) + 1 := by omega
      have i4 : (st'.length : Int) ≤ (cu : Int) := by omega
      have i5 : (0 : Int) ≤ (s : Int) := by omega
      have i6 : (s : Int) < (S.length : Int) := by omega
      have i7 : (0 : Int) < (st'.length : Int) + 1 := by omega
      unfold maxLen at hcm2
      by_cases hmk : v = at_ + 1
      · have hve : ((v : Int) == (at_ : Int) + 1) = true := by rw [hmk]; simp
        have HKP := Lib.hid hkpop
        have HRI := Lib.hid (hri.skip (by rw [hv, hmk]))
        have HZ := Lib.hid hz
        have HKK := Lib.hid (hkp.set_ (p := ⟨wp, 7, none⟩) (.inl hZw) (.slice (some ⟨ub, 0, none⟩) st'.length cu))
        have HGN := Lib.hid hgn
        clear hkpop hri hz hkp hgn hk hmk hv
        go_wp2
        go_roundg (st'.length + muR S W1.seen (at_ + 1))
        case measure => have := HGN.out; rw [List.length_append, List.length_singleton] at this; omega
        case rel => exact ⟨st', W1, qb, vh, _, rfl, by have := HGN.out; rw [List.length_append, List.length_singleton] at this; omega, HKP.out, HRI.out, HZ.out, HKK.out⟩
      · have hve : ((v : Int) == (at_ : Int) + 1) = false := by simp; omega
        have hmkN : W1.seen[s]? ≠ some (at_ + 1) := by rw [hv]; intro e; exact hmk (Option.some.inj e)
        have hmr : Mach wr X pp start steps S := HM.out.keep fun b hb _ => hkp.block b (hXl b hb) (hd b hb)
        obtain ⟨sb, cS, p0, -, -, -, hXsb, hXpp, hsp, cS1, cS2, hrd⟩ := hmr.read (by omega)
        obtain ⟨-, hfork, An, cn, hnx, hcn, hnc, hA1, hA2⟩ := hrd s x hx
        have hXn : ∀ j, X j → j ≠ wp ∧ j ≠ qb := fun j hj => by
          have hzj : ¬ ZX wp qb vh (.slice (some ⟨ub, 0, none⟩) (st'.length + 1) cu) j := fun h => by
            rcases hz j h with h | h
            · exact hd j hj h
            · have := hXl j hj; omega
          exact ⟨fun e => hzj (.inl e), fun e => hzj (.inr (.inl e))⟩
        have hpw := (hXn pp hXpp).1
        have hpq := (hXn pp hXpp).2
        have hsw := (hXn sb hXsb).1
        have hsq := (hXn sb hXsb).2
        have hmark := hkpop.mark (s := s) (a := at_ + 1)
        rw [show intV (at_ + 1) = .int .i64 ((at_ : Int) + 1) by simp [intV]] at hmark
        have hkk : Kept Z w ((wr.setCell ⟨wp, 7, none⟩ (.slice (some ⟨ub, 0, none⟩) st'.length cu)).setCell ⟨qb, s, none⟩ (.int .i64 ((at_ : Int) + 1))) := (hkp.set_ (p := ⟨wp, 7, none⟩) (.inl hZw) _).set_ (p := ⟨qb, s, none⟩) (hz qb (.inr (.inl rfl))) _
        have hmu := muR_set (M := S) (a := at_ + 1) hx hmkN (by omega)
        have hfar : ∀ b, b ≠ wp → b ≠ qb → ((wr.setCell ⟨wp, 7, none⟩ (.slice (some ⟨ub, 0, none⟩) st'.length cu)).setCell ⟨qb, s, none⟩ (.int .i64 ((at_ : Int) + 1))).heap[b]? = wr.heap[b]? := fun b h1 h2 => (Below.heap_setCell _ _ _ b h2).trans (Below.heap_setCell wr _ _ b h1)
        have HGN := Lib.hid (show gk = st'.length + 1 + muR S W1.seen (at_ + 1) by rw [hgn, List.length_append, List.length_singleton])
        have HMU := Lib.hid (show muR S (W1.marks s (at_ + 1)).seen (at_ + 1) + x.next.length = muR S W1.seen (at_ + 1) from hmu)
        have HMK := Lib.hid hmark
        have HKK := Lib.hid hkk
        have HZ := Lib.hid hz
        have HNL := Lib.hid (fun r hr => (HOK.out.2 s x hx).1 r hr)
        have hsz2 : ((wr.setCell ⟨wp, 7, none⟩ (.slice (some ⟨ub, 0, none⟩) st'.length cu)).setCell ⟨qb, s, none⟩ (.int .i64 ((at_ : Int) + 1))).heap.size = wr.heap.size := by simp [World.setCell]
        have hsw0 := hkp.size
        by_cases hs0 : s = 0
        · have e0 : ((s : Int) == 0) = true := by rw [hs0]; rfl
          have hgo := hri.go (ns := []) (W' := ⟨(W1.marks s (at_ + 1)).seen, W1.held, true, frm, at_⟩) hmkN (by omega) rfl (fun r => ⟨(fun h => nomatch h), fun h => (fk_none hx (.inl hs0) r h).elim⟩) (fun r hr => nomatch hr) (.inr ⟨fun h => h.1 hs0, rfl⟩) (.inl ⟨hs0, rfl, rfl, rfl⟩)
          rw [List.append_nil] at hgo
          have HGO := Lib.hid hgo
          have HEN := Lib.hid (HMK.out.ends frm at_)
          have HKE := Lib.hid (((HKK.out.set_ (p := ⟨wp, 4, none⟩) (.inl hZw) (.bool true)).set_ (p := ⟨wp, 5, none⟩) (.inl hZw) (intV frm)).set_ (p := ⟨wp, 6, none⟩) (.inl hZw) (intV at_))
          clear hgo hmark hkk hmu hfar hri hz hkp hgn hk hkpop hmk hmkN hrd hnc hnx hfork hmr hs0 hv
          go_wp2
          go_roundg (st'.length + muR S (W1.marks s (at_ + 1)).seen (at_ + 1))
          case measure => have := HGN.out; have := HMU.out; omega
          case rel => exact ⟨st', ⟨(W1.marks s (at_ + 1)).seen, W1.held, true, frm, at_⟩, qb, vh, _, rfl, by have := HGN.out; have := HMU.out; omega, HEN.out, HGO.out, HZ.out, HKE.out⟩
        · have e0 : ((s : Int) == 0) = false := by simp; omega
          cases hxf : x.fork with
          | true =>
            rw [hxf] at hfork
            have hXu : ∀ j, X j → j ≠ ub := fun j hj e => by
              rcases hz j (.inr (.inr (.inr (by rw [e]; rfl)))) with h | h
              · exact hd j hj h
              · have := hXl j hj; omega
            have hkD : WkT ((wr.setCell ⟨wp, 7, none⟩ (.slice (some ⟨ub, 0, none⟩) st'.length cu)).setCell ⟨qb, s, none⟩ (.int .i64 ((at_ : Int) + 1))).drew wp qb pp vh v3 (.slice (some ⟨ub, 0, none⟩) st'.length cu) (W1.marks s (at_ + 1)) st' := HMK.out.keep fun _ _ => rfl
            have hxl : x.next.length ≤ 100000 := by
              have h1 := muR_le (M := S) W1.seen (at_ + 1)
              omega
            obtain ⟨A2, c2, w2, hrun, hwp2, hk2, hg2, hb2⟩ := hkD.pushN 39 (A := An) (ns := x.next) (c0 := cn) (fun j u hu => by
              obtain ⟨g, e1, e2, e3⟩ := hnc j u hu
              exact ⟨g, e1, (World.cell?_of_block (a := ⟨g, j, none⟩) (hfar g (hXn g e2).1 (hXn g e2).2)).trans e3⟩) hA1 hA2 (by omega)
            obtain ⟨P0, -, -, -, -, -, -, u7, -, -, -, -, -, g7⟩ := wk_cells (show Blk ((wr.setCell ⟨wp, 7, none⟩ (.slice (some ⟨ub, 0, none⟩) st'.length cu)).setCell ⟨qb, s, none⟩ (.int .i64 ((at_ : Int) + 1))).drew wp 157 _ from hkD.top)
            have P1 : ((wr.setCell ⟨wp, 7, none⟩ (.slice (some ⟨ub, 0, none⟩) st'.length cu)).setCell ⟨qb, s, none⟩ (.int .i64 ((at_ : Int) + 1))).drew.cell? ⟨pp, 0, none⟩ = some (.slice (some ⟨sb, 0, none⟩) S.length cS) := (World.cell?_of_block (a := ⟨pp, 0, none⟩) (hfar pp hpw hpq)).trans p0
            have P2 : ((wr.setCell ⟨wp, 7, none⟩ (.slice (some ⟨ub, 0, none⟩) st'.length cu)).setCell ⟨qb, s, none⟩ (.int .i64 ((at_ : Int) + 1))).drew.cell? ⟨sb, s * 258 + 257, none⟩ = some (.slice An x.next.length cn) := (World.cell?_of_block (a := ⟨sb, s * 258 + 257, none⟩) (hfar sb hsw hsq)).trans hnx
            have hgb : ∀ b, X b → w2.heap[b]? = ((wr.setCell ⟨wp, 7, none⟩ (.slice (some ⟨ub, 0, none⟩) st'.length cu)).setCell ⟨qb, s, none⟩ (.int .i64 ((at_ : Int) + 1))).drew.heap[b]? := fun b hb => hg2.block b (by have := hXl b hb; have : ((wr.setCell ⟨wp, 7, none⟩ (.slice (some ⟨ub, 0, none⟩) st'.length cu)).setCell ⟨qb, s, none⟩ (.int .i64 ((at_ : Int) + 1))).drew.heap.size = wr.heap.size := hsz2; omega) (fun e => hXu b hb (Option.some.inj e))
            have Q0 : w2.cell? ⟨wp, 0, none⟩ = some (.pointer (some ⟨pp, 0, none⟩)) := (World.cell?_of_block (a := ⟨wp, 0, none⟩) hwp2).trans P0
            have Q1 : w2.cell? ⟨pp, 0, none⟩ = some (.slice (some ⟨sb, 0, none⟩) S.length cS) := (World.cell?_of_block (a := ⟨pp, 0, none⟩) (hgb pp hXpp)).trans P1
            have Q2 : w2.cell? ⟨sb, s * 258 + 257, none⟩ = some (.slice An x.next.length cn) := (World.cell?_of_block (a := ⟨sb, s * 258 + 257, none⟩) (hgb sb hXsb)).trans P2
            have Q7 : w2.cell? ⟨wp, 7, none⟩ = some (.slice (some ⟨ub, 0, none⟩) st'.length cu) := (World.cell?_of_block (a := ⟨wp, 7, none⟩) hwp2).trans u7
            have G7 : w2.frozen? ⟨wp, 7, none⟩ = false := (World.frozen?_of_block (a := ⟨wp, 7, none⟩) hwp2).trans g7
            have R0 : (w2.setCell ⟨wp, 7, none⟩ (.slice A2 (st'.length + x.next.length) c2)).cell? ⟨wp, 0, none⟩ = some (.pointer (some ⟨pp, 0, none⟩)) := (World.cell?_setCell_other _ _ _ _ (by intro e; injection e with _ e _; cases e)).trans Q0
            have R1 : (w2.setCell ⟨wp, 7, none⟩ (.slice A2 (st'.length + x.next.length) c2)).cell? ⟨pp, 0, none⟩ = some (.slice (some ⟨sb, 0, none⟩) S.length cS) := (World.cell?_of_block (a := ⟨pp, 0, none⟩) (Below.heap_setCell w2 _ _ pp hpw)).trans Q1
            have R2 : (w2.setCell ⟨wp, 7, none⟩ (.slice A2 (st'.length + x.next.length) c2)).cell? ⟨sb, s * 258 + 257, none⟩ = some (.slice An x.next.length cn) := (World.cell?_of_block (a := ⟨sb, s * 258 + 257, none⟩) (Below.heap_setCell w2 _ _ sb hsw)).trans Q2
            have HGO := Lib.hid (hri.go (ns := x.next) (W' := W1.marks s (at_ + 1)) hmkN (by omega) rfl (fun r => ⟨fun h => ⟨hs0, x, hx, hxf, h⟩, fun ⟨_, y, hy, _, h⟩ => by
              rw [hx] at hy; obtain rfl := Option.some.inj hy; exact h⟩) HNL.out (.inr ⟨(fun ⟨_, y, hy, h⟩ => by
              rw [hx] at hy
              obtain rfl := Option.some.inj hy
              rw [hxf] at h
              cases h), rfl⟩) (.inr ⟨hs0, rfl, rfl, rfl⟩))
            have HRUN := Lib.hid hrun
            have HK2 := Lib.hid hk2
            have HZ2 := Lib.hid (show ∀ j, ZX wp qb vh (.slice A2 (st'.length + x.next.length) c2) j → Z j ∨ w.heap.size ≤ j from fun j hj => by
              rcases zx_u hb2 (M := w.heap.size) (by have : ((wr.setCell ⟨wp, 7, none⟩ (.slice (some ⟨ub, 0, none⟩) st'.length cu)).setCell ⟨qb, s, none⟩ (.int .i64 ((at_ : Int) + 1))).drew.heap.size = wr.heap.size := hsz2; omega) hj with h | h
              · exact hz j h
              · exact .inr h)
            have HKE := Lib.hid (show Kept Z w (w2.setCell ⟨wp, 7, none⟩ (.slice A2 (st'.length + x.next.length) c2)) from (((HKK.out.drew).grown hg2 (fun j hj => hz j (.inr (.inr (.inr hj))))).set_ (.inl hZw) _))
            clear hmark hkk hmu hri hz hkp hgn hk hkpop hmk hmkN hrd hnc hmr hv hrun hk2 hb2 hg2 hgb hkD hwp2
            go_wp2_with fail
            refine wp_region_held_drew (S := fun V => V.cell? ⟨wp, 0, none⟩ = some (.pointer (some ⟨pp, 0, none⟩)) ∧ V.cell? ⟨pp, 0, none⟩ = some (.slice (some ⟨sb, 0, none⟩) S.length cS) ∧ V.cell? ⟨sb, s * 258 + 257, none⟩ = some (.slice An x.next.length cn)) mixed ⟨P0, P1, P2⟩ (fun hS => ?_)
            refine wpAnyH_take (i := 0) (v := .pointer (some ⟨wp, 0, none⟩)) rfl (by kernel_rfl) (by kernel_rfl) (by kernel_rfl) (fun _ _ _ h => h) (Or.inl ⟨by rfl, fun W hW => by obtain ⟨h0, h1, h2⟩ := hW; go_simp⟩) hS ?_
            refine wpAnyH_take (i := 1) (v := .pointer (some ⟨wp, 0, none⟩)) rfl (by kernel_rfl) (by kernel_rfl) (by kernel_rfl) (fun _ _ _ h => h) (Or.inl ⟨by rfl, fun W hW => by obtain ⟨h0, h1, h2⟩ := hW; go_simp⟩) hS ?_
            refine wpAnyH_take (i := 2) (v := .pointer (some ⟨wp, 0, none⟩)) rfl (by kernel_rfl) (by kernel_rfl) (by kernel_rfl) (fun _ _ _ h => h) (Or.inl ⟨by rfl, fun W hW => by obtain ⟨h0, h1, h2⟩ := hW; go_simp⟩) hS ?_
            refine wpAnyH_take (i := 3) (v := .pointer (some ⟨wp, 7, none⟩)) rfl (by kernel_rfl) (by kernel_rfl) (by kernel_rfl) (fun _ _ _ h => h) (Or.inl ⟨by rfl, fun W hW => by obtain ⟨h0, h1, h2⟩ := hW; go_simp⟩) hS ?_
            refine wpAnyH_take (i := 5) (v := .pointer (some ⟨wp, 0, none⟩)) rfl (by kernel_rfl) (by kernel_rfl) (by kernel_rfl) (fun _ _ _ h => h) (Or.inl ⟨by rfl, fun W hW => by obtain ⟨h0, h1, h2⟩ := hW; go_simp⟩) hS ?_
            refine wpAnyH_take (i := 6) (v := .pointer (some ⟨wp, 0, none⟩)) rfl (by kernel_rfl) (by kernel_rfl) (by kernel_rfl) (fun _ _ _ h => h) (Or.inl ⟨by rfl, fun W hW => by obtain ⟨h0, h1, h2⟩ := hW; go_simp⟩) hS ?_
            refine wpAnyH_take (i := 7) (v := .pointer (some ⟨wp, 0, none⟩)) rfl (by kernel_rfl) (by kernel_rfl) (by kernel_rfl) (fun _ _ _ h => h) (Or.inl ⟨by rfl, fun W hW => by obtain ⟨h0, h1, h2⟩ := hW; go_simp⟩) hS ?_
            refine wpAnyH_take (i := 8) (v := .pointer (some ⟨pp, 0, none⟩)) rfl (by kernel_rfl) (by kernel_rfl) (by kernel_rfl) (fun _ _ _ h => h) (Or.inl ⟨by rfl, fun W hW => by obtain ⟨h0, h1, h2⟩ := hW; go_simp⟩) hS ?_
            refine wpAnyH_take (i := 9) (v := .pointer (some ⟨pp, 0, none⟩)) rfl (by kernel_rfl) (by kernel_rfl) (by kernel_rfl) (fun _ _ _ h => h) (Or.inl ⟨by rfl, fun W hW => by obtain ⟨h0, h1, h2⟩ := hW; go_simp⟩) hS ?_
            refine wpAnyH_take (i := 10) (v := .pointer (some ⟨pp, 0, none⟩)) rfl (by kernel_rfl) (by kernel_rfl) (by kernel_rfl) (fun _ _ _ h => h) (Or.inl ⟨by rfl, fun W hW => by obtain ⟨h0, h1, h2⟩ := hW; go_simp⟩) hS ?_
            refine wpAnyH_take (i := 11) (v := .slice (some ⟨sb, 0, none⟩) S.length cS) rfl (by kernel_rfl) (by kernel_rfl) (by kernel_rfl) (fun _ _ _ h => h) (Or.inl ⟨by rfl, fun W hW => by obtain ⟨h0, h1, h2⟩ := hW; go_simp⟩) hS ?_
            refine wpAnyH_take (i := 12) (v := .int .i64 (s : Nat)) rfl (by kernel_rfl) (by kernel_rfl) (by kernel_rfl) (fun _ _ _ h => h) (Or.inl ⟨by rfl, fun W hW => by obtain ⟨h0, h1, h2⟩ := hW; go_simp⟩) hS ?_
            refine wpAnyH_take (i := 13) (v := .pointer (some ⟨sb, s * 258, none⟩)) rfl (by kernel_rfl) (by kernel_rfl) (by kernel_rfl) (fun _ _ _ h => h) (Or.inl ⟨by rfl, fun W hW => by obtain ⟨h0, h1, h2⟩ := hW; go_simp⟩) hS ?_
            refine wpAnyH_take (i := 14) (v := .pointer (some ⟨sb, s * 258 + 257, none⟩)) rfl (by kernel_rfl) (by kernel_rfl) (by kernel_rfl) (fun _ _ _ h => h) (Or.inl ⟨by rfl, fun W hW => by obtain ⟨h0, h1, h2⟩ := hW; go_simp⟩) hS ?_
            refine wpAnyH_take (i := 15) (v := .slice An x.next.length cn) rfl (by kernel_rfl) (by kernel_rfl) (by kernel_rfl) (fun _ _ _ h => h) (Or.inl ⟨by rfl, fun W hW => by obtain ⟨h0, h1, h2⟩ := hW; go_simp⟩) hS ?_
            refine wpAnyH_ready (rs := [4]) (by kernel_rfl) (by simp) ?_
            refine AllReadyH.cons rfl (fun K hK => ?_) AllReadyH.nil
            go_simp
            refine hK.out _ _ hS (fun hS => ?_)
            clear hK K
            try simp only [Act.put, List.getElem_toArray, List.getElem_cons_zero, List.getElem_cons_succ, List.setIfInBounds_toArray, List.set_cons_zero, List.set_cons_succ]
            refine wpAnyH_ready (rs := [16]) (by kernel_rfl) (by simp) ?_
            refine AllReadyH.cons rfl (fun K hK => ?_) AllReadyH.nil
            refine step_append_run rfl (.tmp 108) (.tmp 119) 39 rfl _ _ _ rfl rfl HRUN.out ?_
            refine hK.out _ _ ⟨Q0, Q1, Q2⟩ (fun hS => ?_)
            clear hK K
            try simp only [Act.put, List.getElem_toArray, List.getElem_cons_zero, List.getElem_cons_succ, List.setIfInBounds_toArray, List.set_cons_zero, List.set_cons_succ]
            refine wpAnyH_take (i := 17) (v := .pointer (some ⟨wp, 0, none⟩)) rfl (by kernel_rfl) (by kernel_rfl) (by kernel_rfl) (fun _ _ _ h => h) (Or.inl ⟨by rfl, fun W hW => by obtain ⟨h0, h1, h2⟩ := hW; go_simp⟩) hS ?_
            refine wpAnyH_take (i := 18) (v := .pointer (some ⟨wp, 7, none⟩)) rfl (by kernel_rfl) (by kernel_rfl) (by kernel_rfl) (fun _ _ _ h => h) (Or.inl ⟨by rfl, fun W hW => by obtain ⟨h0, h1, h2⟩ := hW; go_simp⟩) hS ?_
            refine wpAnyH_ready (rs := [19]) (by kernel_rfl) (by simp) ?_
            refine AllReadyH.cons rfl (fun K hK => ?_) AllReadyH.nil
            go_simp
            refine hK.out _ _ ⟨R0, R1, R2⟩ (fun hS => ?_)
            clear hK K
            refine wpAnyH_done (by kernel_rfl) ?_ _
            go_wp2
            go_roundg ((st' ++ x.next).length + muR S (W1.marks s (at_ + 1)).seen (at_ + 1))
            case measure => have := HGN.out; have := HMU.out; rw [List.length_append]; omega
            case rel => exact ⟨st' ++ x.next, W1.marks s (at_ + 1), qb, vh, _, rfl, by have := HGN.out; have := HMU.out; rw [List.length_append]; omega, HK2.out, HGO.out, HZ2.out, HKE.out⟩
          | false =>
            rw [hxf] at hfork
            have hbA : Below ((wr.setCell ⟨wp, 7, none⟩ (.slice (some ⟨ub, 0, none⟩) st'.length cu)).setCell ⟨qb, s, none⟩ (.int .i64 ((at_ : Int) + 1))).heap.size ((wr.setCell ⟨wp, 7, none⟩ (.slice (some ⟨ub, 0, none⟩) st'.length cu)).setCell ⟨qb, s, none⟩ (.int .i64 ((at_ : Int) + 1))) (((wr.setCell ⟨wp, 7, none⟩ (.slice (some ⟨ub, 0, none⟩) st'.length cu)).setCell ⟨qb, s, none⟩ (.int .i64 ((at_ : Int) + 1))).alloc (.cells #[.int .i64 (frm : Nat), .int .i64 (s : Nat)] 177)) := (Below.refl _ _).alloc (Nat.le_refl _) _
            have hkA : WkT (((wr.setCell ⟨wp, 7, none⟩ (.slice (some ⟨ub, 0, none⟩) st'.length cu)).setCell ⟨qb, s, none⟩ (.int .i64 ((at_ : Int) + 1))).alloc (.cells #[.int .i64 (frm : Nat), .int .i64 (s : Nat)] 177)) wp qb pp vh v3 (.slice (some ⟨ub, 0, none⟩) st'.length cu) (W1.marks s (at_ + 1)) st' := HMK.out.keep fun b hb => hbA.block b (HMK.out.lt hb)
            have htb := Blk.new ((wr.setCell ⟨wp, 7, none⟩ (.slice (some ⟨ub, 0, none⟩) st'.length cu)).setCell ⟨qb, s, none⟩ (.int .i64 ((at_ : Int) + 1))) 177 #[.int .i64 (frm : Nat), .int .i64 (s : Nat)]
            rw [hsz2] at htb
            have hhl1 : W1.held.length + 1 ≤ 1000000 := by
              obtain ⟨hs, e1, e2, e3⟩ := hri.held
              have := nodup_le S.length hs e2 (fun q hq => by
                obtain ⟨_, y, hy, _⟩ := ((e3 q).1 hq).2.2
                exact (List.getElem?_eq_some_iff.1 hy).1)
              rw [e1, List.length_append, List.length_map]; omega
            obtain ⟨A2, c2, w2, hrun, hwp2, hk2, hg2, hb2⟩ := hkA.hold 155 (f := frm) (s := s) htb hhl1
            obtain ⟨-, -, u2, -, -, -, -, -, g2, -, -, -, -, -⟩ := wk_cells (show Blk w2 wp 157 _ from hwp2.trans hkA.top)
            have hgo := hri.go (ns := []) (W' := ⟨(W1.marks s (at_ + 1)).seen, W1.held ++ [(frm, s)], W1.found, W1.frm, W1.to⟩) hmkN (by omega) rfl (fun r => ⟨(fun h => nomatch h), fun h => (fk_none hx (.inr hxf) r h).elim⟩) (fun r hr => nomatch hr) (.inl ⟨⟨hs0, x, hx, hxf⟩, rfl⟩) (.inr ⟨hs0, rfl, rfl, rfl⟩)
            rw [List.append_nil] at hgo
            have HGO := Lib.hid hgo
            have hmh : (W1.marks s (at_ + 1)).held.length = W1.held.length := rfl
            rw [hmh] at hrun hk2 hb2
            have HRUN := Lib.hid hrun
            have HK2 := Lib.hid hk2
            have HZ2 := Lib.hid (show ∀ j, ZX wp qb (.slice A2 (W1.held.length + 1) c2) (.slice (some ⟨ub, 0, none⟩) st'.length cu) j → Z j ∨ w.heap.size ≤ j from fun j hj => by
              rcases zx_h hb2 (M := w.heap.size) (by have := hbA.size; omega) hj with h | h
              · exact hz j h
              · exact .inr h)
            have HKE := Lib.hid (show Kept Z w (w2.setCell ⟨wp, 2, none⟩ (.slice A2 (W1.held.length + 1) c2)) from ((HKK.out.alloc _).grown hg2 (fun j hj => hz j (.inr (.inr (.inl hj))))).set_ (.inl hZw) _)
            clear hmark hkk hmu hri hz hkp hgn hk hkpop hmk hmkN hrd hnc hmr hv hrun hk2 hb2 hg2 hkA hwp2 hbA htb hgo hmh
            go_wp2_with (at_builtin; refine wpList_append_run rfl (.tmp 70) (.tmp 74) 155 rfl _ _ _ rfl rfl HRUN.out ?_)
            go_roundg (st'.length + muR S (W1.marks s (at_ + 1)).seen (at_ + 1))
            case measure => have := HGN.out; have := HMU.out; omega
            case rel => exact ⟨st', ⟨(W1.marks s (at_ + 1)).seen, W1.held ++ [(frm, s)], W1.found, W1.frm, W1.to⟩, qb, _, _, rfl, by have := HGN.out; have := HMU.out; omega, HK2.out, HGO.out, HZ2.out, HKE.out⟩
end Go.Proofs.Ytjnhmcgjeljcmaa
