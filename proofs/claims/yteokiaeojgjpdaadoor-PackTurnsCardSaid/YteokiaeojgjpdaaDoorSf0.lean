/- The document's own Record; Record. -/
import Derived.Test.YteokiaeojgjpdaaDoorSe
namespace Go.Proofs.YteokiaeojgjpdaaDoor
open Go.RowKit

set_option maxHeartbeats 2000000 in
set_option maxRecDepth 100000 in
theorem refRecord_any {w : World} {A : Option Addr} {m c : Nat} {bs : List UInt8} (hb : BytesAt w A m bs) (hm : m ≤ 100000000) :
    Calls Tryd.prog 16 #[.slice A m c] w (NumPost w (recL bs)) := by
  have hbl := hb.1
  have C1 := Lib.hid (four_any w m (by omega))
  have HB := Lib.hid hb
  clear hb
  go_enter Tryd.func16, Tryd.ntmps16
  go_wp2_with fail
  refine C1.out.mono ?_
  rintro e w1 ⟨A1, c1, rfl, y1, b1⟩
  have C2 := Lib.hid (refSum_any (c := c) (HB.out.below b1) (by unfold maxLen; omega))
  have C3 := Lib.hid (four_any w1 (sumL bs) (sumL_lt bs))
  have hql := sumL_lt bs
  generalize hq : sumL bs = q at C2 C3 hql
  have Y1 := Lib.hid y1
  have B1 := Lib.hid b1
  clear C1 y1 b1
  go_wp2_with fail
  refine C2.out.mono ?_
  rintro e w2 ⟨rfl, rfl⟩
  go_wp2_with fail
  refine C3.out.mono ?_
  rintro e w2 ⟨A2, c2, rfl, y2, b2⟩
  have B2 := Lib.hid (B1.out.trans (b2.mono B1.out.size))
  have C4 := Lib.hid (join_any (c := c1) (d := c2) (Y1.out.below b2) y2 (by decide) (by decide))
  have HR := Lib.hid (show recL bs = le4 m ++ le4 q ++ bs by unfold recL; rw [hq, hbl])
  have hl8 : (le4 m ++ le4 q).length = 8 := rfl
  generalize le4 m ++ le4 q = l8 at C4 HR hl8
  clear C2 C3 y2 b2
  go_wp2_with fail
  refine C4.out.mono ?_
  rintro e w3 ⟨v3, rfl, ho3, b3⟩
  have B3 := Lib.hid (B2.out.trans (b3.mono B2.out.size))
  obtain ⟨A3, c3, rfl, y3, _⟩ := row_bytes ho3
  rw [hl8] at y3 ⊢
  have C5 := Lib.hid (join_any (c := c3) (d := c) y3 (HB.out.below B3.out) (by omega) (by omega))
  clear C4 ho3 b3 y3
  go_wp2_with fail
  refine C5.out.mono ?_
  rintro e w4 ⟨v4, rfl, ho4, b4⟩
  have HO := Lib.hid ho4
  have HB4 := Lib.hid (B3.out.trans (b4.mono B3.out.size))
  clear C5 ho4 b4
  go_wp2
  go_ret
  rw [HR.out]
  exact ⟨_, rfl, row_base HO.out B3.out.size, HB4.out⟩
end Go.Proofs.YteokiaeojgjpdaaDoor
