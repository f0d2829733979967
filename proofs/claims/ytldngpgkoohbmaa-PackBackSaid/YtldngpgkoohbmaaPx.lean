/- pack.Text; the document's example of Num and Text (writing). -/
import Derived.Test.YtldngpgkoohbmaaPw
import Derived.Lib.AppendStr
namespace Go.Proofs.Ytldngpgkoohbmaa
open Go.RowKit

theorem strCells_u8 (s : ByteArray) : Lib.strCells s = s.data.toList.map u8V := rfl
set_option maxHeartbeats 2000000 in
set_option maxRecDepth 100000 in
theorem text_any {w : World} {A : Option Addr} {m c : Nat} {bs : List UInt8} (hb : BytesAt w A m bs) (hm : m ≤ 200000000) (s : ByteArray) (hs : s.size ≤ 200000000) :
    Calls Try.prog 29 #[.slice A m c, .string s] w (NumPost w (bs ++ textL s.data.toList)) := by
  obtain ⟨i0, hi0, hz0, hz1, hz2⟩ := info_parts byte_info
  have hbl := hb.1
  have hsl : s.data.toList.length = s.size := rfl
  have C := Lib.hid (num_any (c := c) hb (by omega) (s.size : Int))
  have hnc : numC (s.size : Int) = s.size := by have := numC_eq (s.size : Int); omega
  rw [hnc] at C
  have hnl := numL_len s.size
  have HE := Lib.hid (show bs ++ textL s.data.toList = (bs ++ numL s.size) ++ s.data.toList by unfold textL; rw [hsl, List.append_assoc])
  have hxl : (bs ++ numL s.size).length ≤ 300000000 := by rw [List.length_append]; omega
  generalize bs ++ numL s.size = xs at *
  clear hnc hnl hb
  go_enter Try.func29, Try.ntmps29
  go_wp2_with fail
  refine C.out.mono ?_
  rintro e w1 ⟨v, rfl, ho, hbel⟩
  have hB := hbel.size
  go_wp2_with (at_builtin; refine Lib.wpList_append_own_string _ rfl _ _ 30 9 rfl w.heap.size 5 i0 Try.underlying30 Try.underlying9 hi0 hz0 hz1 hz2 _ _ _ rfl ho s rfl ?c3 ?c4 ?c5 ?_)
  case c3 => unfold maxLen; omega
  case c4 => omega
  case c5 => omega
  intro v' w2 hown' hgrow _
  have HB := Lib.hid (hbel.grown hgrow hB (fun k hk => (ho.lt k hk).1))
  have HO := Lib.hid hown'
  clear hown' hgrow ho hbel
  go_wp2
  go_ret
  refine ⟨_, rfl, ?_, HB.out⟩
  rw [HE.out, List.length_append, List.map_append, hsl, ← strCells_u8]
  exact HO.out
set_option maxHeartbeats 2000000 in
set_option maxRecDepth 100000 in
theorem writing_any (w : World) : Calls Try.prog 27 #[] w fun e w' => e = .returned (.bool true) ∧ Below w.heap.size w w' := by
  have C1 := Lib.hid (num_any (w := w) (c := 0) (A := none) (m := 0) (bs := []) ⟨rfl, fun h => by omega⟩ (by decide) 300)
  rw [show ([] : List UInt8) ++ numL (numC 300) = [172, 2] by decide] at C1
  go_enter Try.func27, Try.ntmps27
  go_wp2_with fail
  refine C1.out.mono ?_
  rintro e w1 ⟨v, rfl, ho, hbel⟩
  obtain ⟨A1, c1, rfl, hby, _⟩ := row_bytes ho
  have b1 := hby.below ((Below.refl _ w1).alloc (Nat.le_refl _) (.cells #[.int .u8 172, .int .u8 2] 5))
  have S1 := Lib.hid (sameb_yes (c := c1) (d := 2) b1 (bytes_new w1 [172, 2] (0, 0)) (by decide))
  have HB1 := Lib.hid (hbel.alloc hbel.size (.cells #[.int .u8 172, .int .u8 2] 5))
  clear C1 ho hby b1 hbel
  go_wp2_with fail
  refine S1.out.mono ?_
  rintro e w2 ⟨rfl, b2⟩
  have B2 := HB1.out.trans (b2.mono HB1.out.size)
  have B3 := B2.alloc B2.size (.cells #[.int .u8 1] 5)
  have C2 := Lib.hid (text_any (c := 1) (bytes_new w2 [1] (0, 0)) (by decide) ⟨#[97, 98]⟩ (by decide))
  rw [show [1] ++ textL (⟨#[97, 98]⟩ : ByteArray).data.toList = ([1, 2, 97, 98] : List UInt8) by decide] at C2
  clear S1 b2
  go_wp2_with fail
  refine C2.out.mono ?_
  rintro e w3 ⟨v, rfl, ho, hbel⟩
  obtain ⟨A3, c3, rfl, hby, _⟩ := row_bytes ho
  have b1 := hby.below ((Below.refl _ w3).alloc (Nat.le_refl _) (.cells #[.int .u8 1, .int .u8 2, .int .u8 97, .int .u8 98] 5))
  have S1 := Lib.hid (sameb_yes (c := c3) (d := 4) b1 (bytes_new w3 [1, 2, 97, 98] (0, 0)) (by decide))
  have B4 := B3.trans (hbel.mono B3.size)
  have HB1 := Lib.hid (B4.alloc B4.size (.cells #[.int .u8 1, .int .u8 2, .int .u8 97, .int .u8 98] 5))
  clear C2 ho hby b1 hbel B2 B3 B4
  go_wp2_with fail
  refine S1.out.mono ?_
  rintro e w4 ⟨rfl, b4⟩
  go_wp2
  go_ret
  exact ⟨rfl, HB1.out.trans (b4.mono HB1.out.size)⟩
end Go.Proofs.Ytldngpgkoohbmaa
