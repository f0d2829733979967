/- PackRecords answers true. -/
import Derived.Test.YteokiaeojgjpdaaDoorSi
import Derived.Test.YteokiaeojgjpdaaDoorSc
namespace Go.Proofs.YteokiaeojgjpdaaDoor
open Go.RowKit

theorem row_bel {w w' : World} {B : Nat} {e : TypeId} {v : Value} {n : Nat} {xs : List Value} (h : w.ownsRow B e 1 v n xs) (hb : Below w.heap.size w w') : w'.ownsRow B e 1 v n xs := by
  refine ⟨h.1, ?_⟩
  rcases h.2 with h0 | ⟨g, cap, cur, e, h1, h2, h3⟩
  · exact .inl h0
  · exact .inr ⟨g, cap, cur, e, h1, (hb.block g (Array.getElem?_eq_some_iff.1 h2).1).trans h2, h3⟩
theorem nilAt (w : World) : BytesAt w none 0 [] := ⟨rfl, fun h => by omega⟩
set_option maxHeartbeats 4000000 in
set_option maxRecDepth 100000 in
theorem packRecords_walk {w : World} {A B : Option Addr} {m c n d : Nat} {ps bs : List UInt8} (hp : BytesAt w A m ps) (hb : BytesAt w B n bs) (hm : m ≤ maxLen) (hn : n ≤ maxLen) (hnd : n ≤ d) (ht : TabAt w) :
    Calls Tryd.prog 4 #[.slice A m c, .slice B n d] w fun e w' => e = .returned (.bool true) ∧ Below w.heap.size w w' := by
  have hpl := hp.1
  have hbl := hb.1
  unfold maxLen at hm hn
  have HPp := Lib.hid hp
  have HBb := Lib.hid hb
  have HT := Lib.hid ht
  clear hp hb ht
  by_cases hbig : 100000 < m ∨ 100000 < n
  · rcases (by omega : (100000 : Int) < (m : Int) ∨ (¬ (100000 : Int) < (m : Int) ∧ (100000 : Int) < (n : Int))) with h1 | ⟨h1, h2⟩
    all_goals
      go_enter Tryd.func4, Tryd.ntmps4
      go_wp2_with fail
      refine (summing_any HT.out).mono ?_
      rintro e w1 ⟨rfl, h1⟩
      go_wp2
      go_ret
      exact ⟨rfl, h1⟩
  · have h1 : ¬ (100000 : Int) < (m : Int) := by omega
    have h2 : ¬ (100000 : Int) < (n : Int) := by omega
    go_enter Tryd.func4, Tryd.ntmps4
    go_wp2_with fail
    refine (summing_any HT.out).mono ?_
    rintro e w1 ⟨rfl, b1⟩
    have B1 := Lib.hid b1
    have C1 := Lib.hid (record_any (c := c) (HPp.out.below b1) (by omega) (HT.out.below b1))
    clear b1
    go_wp2_with fail
    refine C1.out.mono ?_
    rintro e w2 ⟨v2, rfl, ho2, b2⟩
    have B2 := Lib.hid (B1.out.trans (b2.mono B1.out.size))
    obtain ⟨A2, c2, ev, hy2, _⟩ := row_bytes ho2
    subst ev
    have O2 := Lib.hid (row_base ho2 B1.out.size)
    have hrl : (recL ps).length = m + 8 := by rw [recL_len, hpl]
    rw [hrl] at hy2 ⊢
    have Y2 := Lib.hid hy2
    have C2 := Lib.hid (split_any (c := d) (HBb.out.below B2.out) hnd (by omega) (HT.out.below B2.out))
    clear C1 ho2 b2 hy2
    obtain ⟨sp, hsp⟩ : ∃ sp, sp = splitL bs := ⟨_, rfl⟩
    rw [← hsp] at C2
    have HSP := Lib.hid hsp
    clear hsp
    rcases sp with _ | ⟨q, k⟩
    · go_wp2_with fail
      refine C2.out.mono ?_
      rintro e w3 ⟨rfl, b3⟩
      have B3 := Lib.hid (B2.out.trans (b3.mono B2.out.size))
      have Y3 := Lib.hid (Y2.out.below b3)
      have C3 := Lib.hid (rsplit_any (c := d) (HBb.out.below B3.out) hnd (by omega))
      rw [← HSP.out] at C3
      go_wp2_with fail
      refine C3.out.mono ?_
      rintro e w4 ⟨rfl, b4⟩
      have B4 := Lib.hid (B3.out.trans (b4.mono B3.out.size))
      have XY := Lib.hid (show BytesAt w4 none 0 [] ∧ BytesAt w4 none 0 [] from ⟨nilAt _, nilAt _⟩)
      have Y24 := Lib.hid ((Y2.out.below b3).below b4)
      have O4 := Lib.hid (row_bel (row_bel O2.out b3) b4)
      have C4 := Lib.hid (refRecord_any (c := c) (HPp.out.below B4.out) (by omega))
      clear C2 C3 b3 b4 Y2 O2 Y3
      go_wp2_with fail
      refine C4.out.mono ?_
      rintro e w5 ⟨v5, rfl, ho5, b5⟩
      have B5 := Lib.hid (B4.out.trans (b5.mono B4.out.size))
      obtain ⟨A5, c5, ev, hy5, _⟩ := row_bytes ho5
      subst ev
      rw [hrl] at hy5 ⊢
      have C5 := Lib.hid (sameb_yes (c := c2) (d := c5) (Y24.out.below b5) hy5 (by unfold maxLen; omega))
      have O5 := Lib.hid (row_bel O4.out b5)
      have XY5 := Lib.hid (show BytesAt w5 none 0 [] ∧ BytesAt w5 none 0 [] from ⟨XY.out.1.below b5, XY.out.2.below b5⟩)
      clear C4 ho5 b5 hy5 Y24 O4 XY B4
      go_wp2_with fail
      refine C5.out.mono ?_
      rintro e w6 ⟨rfl, b6⟩
      have B6 := Lib.hid (B5.out.trans (b6.mono B5.out.size))
      have O6 := Lib.hid (row_bel O5.out b6)
      have C6 := Lib.hid (sameb_yes (c := 0) (d := 0) (XY5.out.1.below b6) (XY5.out.2.below b6) (by unfold maxLen; omega))
      clear C5 b6 O5 XY5 B5
      go_wp2_with fail
      refine C6.out.mono ?_
      rintro e w7 ⟨rfl, b7⟩
      have B7 := Lib.hid (B6.out.trans (b7.mono B6.out.size))
      have O7 := row_bel O6.out b7
      obtain ⟨A8, c8, w8, hrun, ho8, b8⟩ := put_bytes (c := d) 22 O7 B7.out.size (HBb.out.below B7.out) (by rw [hrl]; omega)
      rw [hrl] at hrun ho8
      have hsh := row_shape (row_base ho8 (Nat.zero_le _))
      obtain ⟨A9, c9, ev, hnc, _⟩ := hsh
      injection ev with e1 e2 e3
      subst e1 e3
      clear e2
      obtain ⟨A10, c10, ev, hy8, _⟩ := row_bytes ho8
      injection ev with e1 e2 e3
      subst e1 e3
      have hl8 : (recL ps ++ bs).length = m + 8 + n := by rw [List.length_append, hrl, hbl]
      rw [hl8] at hy8 hnc
      clear e2
      have B8 := Lib.hid (B7.out.trans b8)
      have C8 := Lib.hid (split_any (c := c8) hy8 hnc (by omega) (HT.out.below B8.out))
      rw [splitL_rec (by omega) bs, hpl] at C8
      have HRUN := Lib.hid hrun
      clear C6 b7 O6 O7 hrun ho8 b8 hnc hy8 hl8 B6
      go_wp2_with (at_builtin; refine wpList_append_run rfl (.tmp 61) (.tmp 62) 22 rfl _ _ _ rfl rfl HRUN.out ?_)
      refine C8.out.mono ?_
      rintro e w9 ⟨A9, c9, rfl, hy9, b9⟩
      have B9 := Lib.hid (B8.out.trans (b9.mono B8.out.size))
      rw [hpl] at hy9 ⊢
      have C9 := Lib.hid (sameb_yes (c := c9) (d := c) hy9 (HPp.out.below B9.out) (by unfold maxLen; omega))
      clear C8 HRUN hy9 b9 B8
      go_wp2_with fail
      refine C9.out.mono ?_
      rintro e w10 ⟨rfl, b10⟩
      have B10 := Lib.hid (B9.out.trans (b10.mono B9.out.size))
      clear C9 b10 B9
      go_wp2
      go_ret
      exact ⟨rfl, B10.out⟩
    · go_wp2_with fail
      refine C2.out.mono ?_
      rintro e w3 ⟨A3, c3, rfl, hx, b3⟩
      have hql : q.length ≤ 100000 := by
        obtain ⟨_, _, h3, h4, _⟩ := splitL_bd HSP.out.symm
        omega
      have B3 := Lib.hid (B2.out.trans (b3.mono B2.out.size))
      have C3 := Lib.hid (rsplit_any (c := d) (HBb.out.below B3.out) hnd (by omega))
      rw [← HSP.out] at C3
      go_wp2_with fail
      refine C3.out.mono ?_
      rintro e w4 ⟨A4, c4, rfl, hy, b4⟩
      have X4 := hx.below b4
      generalize q.length = ql at *
      have B4 := Lib.hid (B3.out.trans (b4.mono B3.out.size))
      have XY := Lib.hid (show BytesAt w4 A3 ql q ∧ BytesAt w4 A4 ql q from ⟨X4, hy⟩)
      have Y24 := Lib.hid ((Y2.out.below b3).below b4)
      have O4 := Lib.hid (row_bel (row_bel O2.out b3) b4)
      have C4 := Lib.hid (refRecord_any (c := c) (HPp.out.below B4.out) (by omega))
      clear C2 C3 b3 b4 Y2 O2 X4 hx hy
      go_wp2_with fail
      refine C4.out.mono ?_
      rintro e w5 ⟨v5, rfl, ho5, b5⟩
      have B5 := Lib.hid (B4.out.trans (b5.mono B4.out.size))
      obtain ⟨A5, c5, ev, hy5, _⟩ := row_bytes ho5
      subst ev
      rw [hrl] at hy5 ⊢
      have C5 := Lib.hid (sameb_yes (c := c2) (d := c5) (Y24.out.below b5) hy5 (by unfold maxLen; omega))
      have O5 := Lib.hid (row_bel O4.out b5)
      have XY5 := Lib.hid (show BytesAt w5 A3 ql q ∧ BytesAt w5 A4 ql q from ⟨XY.out.1.below b5, XY.out.2.below b5⟩)
      clear C4 ho5 b5 hy5 Y24 O4 XY B4
      go_wp2_with fail
      refine C5.out.mono ?_
      rintro e w6 ⟨rfl, b6⟩
      have B6 := Lib.hid (B5.out.trans (b6.mono B5.out.size))
      have O6 := Lib.hid (row_bel O5.out b6)
      have C6 := Lib.hid (sameb_yes (c := c3) (d := c4) (XY5.out.1.below b6) (XY5.out.2.below b6) (by unfold maxLen; omega))
      clear C5 b6 O5 XY5 B5
      go_wp2_with fail
      refine C6.out.mono ?_
      rintro e w7 ⟨rfl, b7⟩
      have B7 := Lib.hid (B6.out.trans (b7.mono B6.out.size))
      have O7 := row_bel O6.out b7
      obtain ⟨A8, c8, w8, hrun, ho8, b8⟩ := put_bytes (c := d) 22 O7 B7.out.size (HBb.out.below B7.out) (by rw [hrl]; omega)
      rw [hrl] at hrun ho8
      have hsh := row_shape (row_base ho8 (Nat.zero_le _))
      obtain ⟨A9, c9, ev, hnc, _⟩ := hsh
      injection ev with e1 e2 e3
      subst e1 e3
      clear e2
      obtain ⟨A10, c10, ev, hy8, _⟩ := row_bytes ho8
      injection ev with e1 e2 e3
      subst e1 e3
      have hl8 : (recL ps ++ bs).length = m + 8 + n := by rw [List.length_append, hrl, hbl]
      rw [hl8] at hy8 hnc
      clear e2
      have B8 := Lib.hid (B7.out.trans b8)
      have C8 := Lib.hid (split_any (c := c8) hy8 hnc (by omega) (HT.out.below B8.out))
      rw [splitL_rec (by omega) bs, hpl] at C8
      have HRUN := Lib.hid hrun
      clear C6 b7 O6 O7 hrun ho8 b8 hnc hy8 hl8 B6
      go_wp2_with (at_builtin; refine wpList_append_run rfl (.tmp 61) (.tmp 62) 22 rfl _ _ _ rfl rfl HRUN.out ?_)
      refine C8.out.mono ?_
      rintro e w9 ⟨A9, c9, rfl, hy9, b9⟩
      have B9 := Lib.hid (B8.out.trans (b9.mono B8.out.size))
      rw [hpl] at hy9 ⊢
      have C9 := Lib.hid (sameb_yes (c := c9) (d := c) hy9 (HPp.out.below B9.out) (by unfold maxLen; omega))
      clear C8 HRUN hy9 b9 B8
      go_wp2_with fail
      refine C9.out.mono ?_
      rintro e w10 ⟨rfl, b10⟩
      have B10 := Lib.hid (B9.out.trans (b10.mono B9.out.size))
      clear C9 b10 B9
      go_wp2
      go_ret
      exact ⟨rfl, B10.out⟩
end Go.Proofs.YteokiaeojgjpdaaDoor
