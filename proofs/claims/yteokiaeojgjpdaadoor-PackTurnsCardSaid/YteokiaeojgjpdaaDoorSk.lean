/- PackTurns answers true. -/
import Derived.Test.YteokiaeojgjpdaaDoorSj
import Derived.Test.YteokiaeojgjpdaaDoorSg
namespace Go.Proofs.YteokiaeojgjpdaaDoor
open Go.RowKit

theorem and_le' (a b : Int) (n : Nat) (hb : b = (n : Int)) (hn : n < 4611686018427387904) : 0 ≤ bits BinOp.and IntKind.i64 a b ∧ bits BinOp.and IntKind.i64 a b ≤ n := by
  have hbn : (BitVec.ofInt 64 b).toNat = n := by
    rw [hb, BitVec.toNat_ofInt]; omega
  have h : (BitVec.ofInt 64 a &&& BitVec.ofInt 64 b).toNat ≤ n := by
    rw [BitVec.toNat_and]
    exact Nat.le_trans Nat.and_le_right (Nat.le_of_eq hbn)
  show 0 ≤ IntKind.i64.wrap ((BitVec.ofInt 64 a &&& BitVec.ofInt 64 b).toNat : Int) ∧ IntKind.i64.wrap ((BitVec.ofInt 64 a &&& BitVec.ofInt 64 b).toNat : Int) ≤ n
  rw [IntWalk.i64_in _ (by omega)]; omega
/-- A byte of a row set anew. -/
theorem BytesAt.set_ {w : World} {b o n i : Nat} {bs : List UInt8} (h : BytesAt w (some ⟨b, o, none⟩) n bs) (hi : i < n) (z : UInt8) : BytesAt (w.setCell ⟨b, o + i, none⟩ (u8V z)) (some ⟨b, o, none⟩) n (bs.set i z) := by
  have hl := h.1
  refine ⟨by rw [List.length_set]; exact hl, fun hn => ?_⟩
  obtain ⟨b', o', e, hlt, hc⟩ := h.2 hn
  injection e with e
  injection e with e1 e2 _
  subst e1 e2
  refine ⟨b, o, rfl, by simpa [World.setCell] using hlt, fun j c hj => ?_⟩
  by_cases hji : j = i
  · subst hji
    rw [List.getElem?_set_self (by omega)] at hj
    obtain rfl := Option.some.inj hj
    apply World.cell?_setCell_same (u := u8V (bs[j]'(by omega)))
    exact hc j _ (List.getElem?_eq_getElem (by omega))
  · rw [List.getElem?_set_ne (fun e => hji e.symm)] at hj
    rw [← hc j c hj]
    apply World.cell?_setCell_other
    intro e; injection e with _ e _; omega
set_option maxHeartbeats 4000000 in
set_option maxRecDepth 100000 in
theorem packTurns_walk {w : World} {A : Option Addr} {m c : Nat} {ps : List UInt8} (k t : Int) (ht0 : 0 ≤ t) (ht1 : t < 256) (hp : BytesAt w A m ps) (hm : m ≤ maxLen) (ht : TabAt w) :
    Calls Tryd.prog 5 #[.slice A m c, .int .i64 k, .int .u8 t] w fun e w' => e = .returned (.bool true) ∧ Below w.heap.size w w' := by
  have hpl := hp.1
  unfold maxLen at hm
  have HPp := Lib.hid hp
  have HT := Lib.hid ht
  clear hp ht
  obtain ⟨to, hto⟩ : ∃ to : UInt8, t = ((to.toNat : Nat) : Int) := ⟨UInt8.ofNat t.toNat, by
    have : (UInt8.ofNat t.toNat).toNat = t.toNat := by simp; omega
    rw [this]; omega⟩
  subst hto
  clear ht0 ht1
  by_cases hbig : 3000 < m
  · have h1 : (3000 : Int) < (m : Int) := by omega
    go_enter Tryd.func5, Tryd.ntmps5
    go_wp2_with fail
    refine (summing_any HT.out).mono ?_
    rintro e w1 ⟨rfl, h1⟩
    go_wp2
    go_ret
    exact ⟨rfl, h1⟩
  · have h1 : ¬ (3000 : Int) < (m : Int) := by omega
    obtain ⟨a, ea⟩ : ∃ a : Nat, bits BinOp.and IntKind.i64 k 4095 = (a : Int) := ⟨(bits BinOp.and IntKind.i64 k 4095).toNat, by have := and_le' k 4095 4095 rfl (by decide); omega⟩
    obtain ⟨i, hi⟩ : ∃ i, i = a % (m + 8) := ⟨_, rfl⟩
    have him : i < m + 8 := by rw [hi]; exact Nat.mod_lt _ (by omega)
    have ei : (a : Int) % ((m : Int) + 8) = (i : Int) := by rw [hi, Int.natCast_emod, Int.natCast_add]; rfl
    have HI := Lib.hid hi
    clear hi
    go_enter Tryd.func5, Tryd.ntmps5
    go_wp2_with fail
    refine (summing_any HT.out).mono ?_
    rintro e w1 ⟨rfl, b1⟩
    have B1 := Lib.hid b1
    have C1 := Lib.hid (record_any (c := c) (HPp.out.below b1) (by omega) (HT.out.below b1))
    clear b1
    go_wp2_with fail
    refine C1.out.mono ?_
    rintro e w2 ⟨v2, rfl, ho2, b2⟩
    have B2 := Lib.hid (B1.out.trans (b2.mono B1.out.size))
    have hrl : (recL ps).length = m + 8 := by rw [recL_len, hpl]
    obtain ⟨g, cur, c2, ev, hg, hcm, hcz, hgb⟩ : ∃ g cur c2, v2 = .slice (some ⟨g, 0, none⟩) (m + 8) c2 ∧ Blk w2 g 5 cur ∧ m + 8 ≤ c2 ∧ cur.size = c2 ∧ w.heap.size ≤ g := by
      have hs := B1.out.size
      rcases ho2.2 with ⟨e, h0⟩ | ⟨g, cap, cur, e, hB, hb, h1, _, h3, _⟩
      · omega
      · exact ⟨g, cur, cap, by rw [e, hrl], hb, by omega, by omega, by omega⟩
    obtain ⟨A2, c3, ev2, hy2, _⟩ := row_bytes ho2
    rw [ev] at ev2
    rw [hrl] at ev2 hy2
    injection ev2 with q1 _ q3
    subst q1 q3 ev
    have hic : (i : Int) ≤ (c2 : Int) := by omega
    have C2 := Lib.hid (split_any (c := c2) (hy2.cut (k := i) (by omega)) (by omega) (by omega) (HT.out.below B2.out))
    rw [splitL_cut (by omega) (by omega)] at C2
    have Y2 := Lib.hid hy2
    have G2 := Lib.hid hg
    clear C1 ho2 b2 hy2 hg
    go_wp2_with fail
    refine C2.out.mono ?_
    rintro e w3 ⟨rfl, b3⟩
    have B3 := Lib.hid (B2.out.trans (b3.mono B2.out.size))
    have G3 := Lib.hid (show Blk w3 g 5 cur from (b3.block g G2.out.lt).trans G2.out)
    have Y3 := Lib.hid (Y2.out.below b3)
    obtain ⟨z, hz⟩ : ∃ z, (recL ps)[i]? = some z := ⟨(recL ps)[i]'(by omega), List.getElem?_eq_getElem _⟩
    have c1 : w3.cell? ⟨g, i, none⟩ = some (.int .u8 (z.toNat : Nat)) := by
      obtain ⟨_, _, e, _, hc⟩ := Y3.out.2 (by omega)
      injection e with e
      injection e with e1 e2 _
      subst e1 e2
      have := hc i z hz
      rwa [Nat.zero_add] at this
    have f1 : w3.frozen? ⟨g, i, none⟩ = false := G3.out.frozen i
    have j0 : (i : Int) < (m : Int) + 8 := by omega
    have HZ := Lib.hid hz
    clear C2 b3 G2 Y2 hz
    by_cases hzt : z = to
    · subst hzt
      go_wp2
      go_ret
      exact ⟨rfl, B3.out⟩
    · have hne : ¬ (z.toNat : Int) = (to.toNat : Int) := fun e => hzt (UInt8.toNat_inj.1 (by omega))
      have hys := Y3.out.set_ (i := i) (by omega) to
      rw [Nat.zero_add] at hys
      have bs := B3.out.setCell (p := ⟨g, i, none⟩) hgb (u8V to)
      have C3 := Lib.hid (split_any (c := c2) hys (by omega) (by omega) (HT.out.below bs))
      have BS := Lib.hid bs
      have PT := Lib.hid (fun q k (h : splitL ((recL ps).set i to) = some (q, k)) => splitL_turn HZ.out hzt h)
      obtain ⟨sp, hsp⟩ : ∃ sp, sp = splitL ((recL ps).set i to) := ⟨_, rfl⟩
      rw [← hsp] at C3
      have HSP := Lib.hid hsp
      have hl3 : ((recL ps).set i to).length = m + 8 := by rw [List.length_set, hrl]
      clear hys bs hsp
      rcases sp with _ | ⟨q, kk⟩
      · go_wp2_with fail
        refine C3.out.mono ?_
        rintro e w4 ⟨rfl, b4⟩
        have B4 := Lib.hid (BS.out.trans (b4.mono BS.out.size))
        clear C3 b4
        go_wp2
        go_ret
        exact ⟨rfl, B4.out⟩
      · have hql : q.length ≤ 3008 := by
          obtain ⟨_, _, h3, h4, _⟩ := splitL_bd HSP.out.symm
          omega
        have hqp := PT.out q kk HSP.out.symm
        go_wp2_with fail
        refine C3.out.mono ?_
        rintro e w4 ⟨A4, c4, rfl, y4, b4⟩
        have B4 := Lib.hid (BS.out.trans (b4.mono BS.out.size))
        have C4 := Lib.hid (sameb_any (c := c4) (d := c) y4 (HPp.out.below B4.out) (by unfold maxLen; omega) (by unfold maxLen; omega))
        rw [decide_eq_false hqp] at C4
        clear C3 y4 b4 hqp
        generalize q.length = ql at *
        go_wp2_with fail
        refine C4.out.mono ?_
        rintro e w5 ⟨rfl, b5⟩
        have B5 := Lib.hid (B4.out.trans (b5.mono B4.out.size))
        clear C4 b5
        go_wp2
        go_ret
        exact ⟨rfl, B5.out⟩
end Go.Proofs.YteokiaeojgjpdaaDoor
